import PyProof.Rows.All
import Wide.All
import OpenK.AllK
import Wide.FinOn
import HandS.Head2
import KE.KNestM
import HandS.ForMost
import HandS.Exc
import HandS.ExcOwn
import HandS.Defaults
import HandS.Lambda
import HandS.HeadHook1
import HandS.HeadHook2
import HandS.HeadHook3
import HandS.HeadHook4
import KE.KStateDown
import HandS.ExcInit
import HandS.ExcIs
import HandS.ExcField
import HandS.Head0
import HandS.Head1
import KE.KExcIs
import HandS.ExcValue
import HandS.MakeKwOnly
import KE.KLam
import HandS.Nested
import HandS.NoneIn
import PyProof.ReprRoads
import PyProof.Rows.FactsT3
import HandS.Iter
import HandS.EndTab
import HandS.HeadWalk
import PySem.Challenge.RW_lastfaces_k00_errors_made
section T_K0Mid
set_option Elab.async false
set_option linter.all false
set_option maxRecDepth 100000
set_option maxHeartbeats 0
/-! The state behind the first 44 statements of the top, written out. -/
noncomputable section
namespace K0
namespace Mid
open PySem PySem.W
abbrev τ (x : String) : Str := Str.ofString x
abbrev ι (n : Int) : Value := .int n 0
abbrev η (P : Params) (x : Str) := PyData.keyHash P x
/-- an object of the boot's -/
def bo (P : Params) (i : Nat) : Obj := ((boot_heap P).objs.toList).getD i default
def o3 (P : Params) : Obj := (Obj.mk (Value.type "dict") none (Data.dict (List.toArray [(DictEntry.mk (η P (τ "__name__")) (Value.str (τ "__name__") 165) (Value.str (τ "lastfaces.errors") 187)), (DictEntry.mk (η P (τ "__doc__")) (Value.str (τ "__doc__") 166) .none), (DictEntry.mk (η P (τ "__package__")) (Value.str (τ "__package__") 167) .none), (DictEntry.mk (η P (τ "__loader__")) (Value.str (τ "__loader__") 168) (Value.builtin "__main__.__loader__#opaque")), (DictEntry.mk (η P (τ "__spec__")) (Value.str (τ "__spec__") 169) .none), (DictEntry.mk (η P (τ "__annotations__")) (Value.str (τ "__annotations__") 170) (Value.ref 6)), (DictEntry.mk (η P (τ "__builtins__")) (Value.str (τ "__builtins__") 171) (Value.ref 4)), (DictEntry.mk (η P (τ "__file__")) (Value.str (τ "__file__") 173) (Value.str (τ "/claim/cut.py") 172)), (DictEntry.mk (η P (τ "__cached__")) (Value.str (τ "__cached__") 174) .none), (DictEntry.mk (η P (τ "FaceError")) (Value.str (τ "FaceError") 206) (Value.ref 24)), (DictEntry.mk (η P (τ "BadAnswer")) (Value.str (τ "BadAnswer") 231) (Value.ref 44)), (DictEntry.mk (η P (τ "BadAround")) (Value.str (τ "BadAround") 256) (Value.ref 63)), (DictEntry.mk (η P (τ "BadAsker")) (Value.str (τ "BadAsker") 281) (Value.ref 82)), (DictEntry.mk (η P (τ "BadChutes")) (Value.str (τ "BadChutes") 306) (Value.ref 101)), (DictEntry.mk (η P (τ "BadClaim")) (Value.str (τ "BadClaim") 331) (Value.ref 120)), (DictEntry.mk (η P (τ "BadClaims")) (Value.str (τ "BadClaims") 356) (Value.ref 139)), (DictEntry.mk (η P (τ "BadDeed")) (Value.str (τ "BadDeed") 381) (Value.ref 158)), (DictEntry.mk (η P (τ "BadDoors")) (Value.str (τ "BadDoors") 406) (Value.ref 177)), (DictEntry.mk (η P (τ "BadDues")) (Value.str (τ "BadDues") 431) (Value.ref 196)), (DictEntry.mk (η P (τ "BadFloors")) (Value.str (τ "BadFloors") 456) (Value.ref 215)), (DictEntry.mk (η P (τ "BadGates")) (Value.str (τ "BadGates") 481) (Value.ref 234)), (DictEntry.mk (η P (τ "BadGiven")) (Value.str (τ "BadGiven") 506) (Value.ref 253)), (DictEntry.mk (η P (τ "BadGuesses")) (Value.str (τ "BadGuesses") 531) (Value.ref 272)), (DictEntry.mk (η P (τ "BadInn")) (Value.str (τ "BadInn") 556) (Value.ref 291)), (DictEntry.mk (η P (τ "BadKeeper")) (Value.str (τ "BadKeeper") 581) (Value.ref 310)), (DictEntry.mk (η P (τ "BadKept")) (Value.str (τ "BadKept") 606) (Value.ref 329)), (DictEntry.mk (η P (τ "BadLandings")) (Value.str (τ "BadLandings") 631) (Value.ref 348)), (DictEntry.mk (η P (τ "BadLists")) (Value.str (τ "BadLists") 656) (Value.ref 367)), (DictEntry.mk (η P (τ "BadLooker")) (Value.str (τ "BadLooker") 681) (Value.ref 386)), (DictEntry.mk (η P (τ "BadMany")) (Value.str (τ "BadMany") 706) (Value.ref 405)), (DictEntry.mk (η P (τ "BadMap")) (Value.str (τ "BadMap") 731) (Value.ref 424)), (DictEntry.mk (η P (τ "BadName")) (Value.str (τ "BadName") 756) (Value.ref 443)), (DictEntry.mk (η P (τ "BadNames")) (Value.str (τ "BadNames") 781) (Value.ref 462)), (DictEntry.mk (η P (τ "BadNumber")) (Value.str (τ "BadNumber") 806) (Value.ref 481)), (DictEntry.mk (η P (τ "BadOrder")) (Value.str (τ "BadOrder") 831) (Value.ref 500)), (DictEntry.mk (η P (τ "BadPeople")) (Value.str (τ "BadPeople") 856) (Value.ref 519)), (DictEntry.mk (η P (τ "BadPerson")) (Value.str (τ "BadPerson") 881) (Value.ref 538)), (DictEntry.mk (η P (τ "BadPiece")) (Value.str (τ "BadPiece") 906) (Value.ref 557)), (DictEntry.mk (η P (τ "BadPlacing")) (Value.str (τ "BadPlacing") 931) (Value.ref 576)), (DictEntry.mk (η P (τ "BadQuestion")) (Value.str (τ "BadQuestion") 956) (Value.ref 595)), (DictEntry.mk (η P (τ "BadRooms")) (Value.str (τ "BadRooms") 981) (Value.ref 614)), (DictEntry.mk (η P (τ "BadRow")) (Value.str (τ "BadRow") 1006) (Value.ref 633)), (DictEntry.mk (η P (τ "BadRows")) (Value.str (τ "BadRows") 1031) (Value.ref 652)), (DictEntry.mk (η P (τ "BadSeen")) (Value.str (τ "BadSeen") 1056) (Value.ref 671)), (DictEntry.mk (η P (τ "BadShy")) (Value.str (τ "BadShy") 1081) (Value.ref 690)), (DictEntry.mk (η P (τ "BadSome")) (Value.str (τ "BadSome") 1106) (Value.ref 709)), (DictEntry.mk (η P (τ "BadStart")) (Value.str (τ "BadStart") 1131) (Value.ref 728)), (DictEntry.mk (η P (τ "BadSteps")) (Value.str (τ "BadSteps") 1156) (Value.ref 747)), (DictEntry.mk (η P (τ "BadText")) (Value.str (τ "BadText") 1181) (Value.ref 766)), (DictEntry.mk (η P (τ "BadTurns")) (Value.str (τ "BadTurns") 1206) (Value.ref 785)), (DictEntry.mk (η P (τ "BadWishes")) (Value.str (τ "BadWishes") 1231) (Value.ref 804)), (DictEntry.mk (η P (τ "CanBeTold")) (Value.str (τ "CanBeTold") 1247) (Value.ref 816))]) 52) #[])
def o11 (P : Params) : Obj := (Obj.mk (Value.type "tuple") none (Data.seq #[] 0) #[])
def o12 (P : Params) : Obj := (Obj.mk .none none (Data.fields (List.toArray [(ι 2), (ι 0), (Value.ref 20), (ι 4), (ι 0), (Value.ref 33), (ι 8), (ι 0), (Value.ref 52), (ι 12), (ι 0), (Value.ref 71), (ι 16), (ι 0), (Value.ref 90), (ι 20), (ι 0), (Value.ref 109), (ι 24), (ι 0), (Value.ref 128), (ι 28), (ι 0), (Value.ref 147), (ι 32), (ι 0), (Value.ref 166), (ι 36), (ι 0), (Value.ref 185), (ι 40), (ι 0), (Value.ref 204), (ι 44), (ι 0), (Value.ref 223), (ι 48), (ι 0), (Value.ref 242), (ι 52), (ι 0), (Value.ref 261), (ι 56), (ι 0), (Value.ref 280), (ι 60), (ι 0), (Value.ref 299), (ι 64), (ι 0), (Value.ref 318), (ι 68), (ι 0), (Value.ref 337), (ι 72), (ι 0), (Value.ref 356), (ι 76), (ι 0), (Value.ref 375), (ι 80), (ι 0), (Value.ref 394), (ι 84), (ι 0), (Value.ref 413), (ι 88), (ι 0), (Value.ref 432), (ι 92), (ι 0), (Value.ref 451), (ι 96), (ι 0), (Value.ref 470), (ι 100), (ι 0), (Value.ref 489), (ι 104), (ι 0), (Value.ref 508), (ι 108), (ι 0), (Value.ref 527), (ι 112), (ι 0), (Value.ref 546), (ι 116), (ι 0), (Value.ref 565), (ι 120), (ι 0), (Value.ref 584), (ι 124), (ι 0), (Value.ref 603), (ι 128), (ι 0), (Value.ref 622), (ι 132), (ι 0), (Value.ref 641), (ι 136), (ι 0), (Value.ref 660), (ι 140), (ι 0), (Value.ref 679), (ι 144), (ι 0), (Value.ref 698), (ι 148), (ι 0), (Value.ref 717), (ι 152), (ι 0), (Value.ref 736), (ι 156), (ι 0), (Value.ref 755), (ι 160), (ι 0), (Value.ref 774), (ι 164), (ι 0), (Value.ref 793), (ι 168), (ι 0), (Value.ref 812)])) #[])
def o13 (P : Params) : Obj := (Obj.mk (Value.type "code") none (Data.fields (List.toArray [(Value.str (τ "<module>") 182), (Value.str (τ "<module>") 183), (Value.str (τ "/claim/cut.py") 184), (ι 1), (ι 0), (ι 0), (ι 0), (ι 0), (Value.ref 11), (Value.bool Bool.false), (ι 181), (Value.ref 12), .none, .none, .none, .none, (ι 185), (ι 1), (Value.str (τ "/claim/cut.py") 186)])) #[])
def o14 (P : Params) : Obj := (Obj.mk (Value.type "frame") none Data.plain (List.toArray [(Option.some (Value.ref 13)), (Option.some (Value.ref 3)), (Option.some (Value.ref 3)), none, (Option.some (Value.str (τ "__main__") 164)), none, (Option.some (Value.ref 0))]))
def o15 (P : Params) : Obj := (Obj.mk (Value.type "tuple") none (Data.seq (List.toArray [(Value.type "ValueError")]) 0) #[])
def o16 (P : Params) : Obj := (Obj.mk (Value.type "builtin_function_or_method") none (Data.fields (List.toArray [(Value.builtin "type.__prepare__"), (Value.type "type")])) #[])
def o17 (P : Params) : Obj := (Obj.mk (Value.type "dict") none (Data.dict (List.toArray [(DictEntry.mk (η P (τ "__module__")) (Value.str (τ "__module__") 196) (Value.str (τ "lastfaces.errors") 187)), (DictEntry.mk (η P (τ "__qualname__")) (Value.str (τ "__qualname__") 198) (Value.str (τ "FaceError") 197)), (DictEntry.mk (η P (τ "__firstlineno__")) (Value.str (τ "__firstlineno__") 200) (Value.int 2 199)), (DictEntry.mk (η P (τ "__static_attributes__")) (Value.str (τ "__static_attributes__") 201) (Value.ref 22))]) 4) #[])
def o18 (P : Params) : Obj := (Obj.mk (Value.type "tuple") none (Data.seq #[] 0) #[])
def o19 (P : Params) : Obj := (Obj.mk .none none (Data.fields #[]) #[])
def o20 (P : Params) : Obj := (Obj.mk (Value.type "code") none (Data.fields (List.toArray [(Value.str (τ "FaceError") 191), (Value.str (τ "FaceError") 192), (Value.str (τ "/claim/cut.py") 193), (ι 2), (ι 0), (ι 0), (ι 0), (ι 0), (Value.ref 18), (Value.bool Bool.false), (ι 181), (Value.ref 19), .none, .none, .none, .none, (ι 194), (ι 2), (Value.str (τ "/claim/cut.py") 195)])) #[])
def g0 (P : Params) : List Obj := [o11 P, o12 P, o13 P, o14 P, o15 P, o16 P, o17 P, o18 P, o19 P, o20 P]
def o21 (P : Params) : Obj := (Obj.mk (Value.type "frame") none Data.plain (List.toArray [(Option.some (Value.ref 20)), (Option.some (Value.ref 3)), (Option.some (Value.ref 17)), none, (Option.some (Value.str (τ "lastfaces.errors") 187)), none, (Option.some (Value.ref 0))]))
def o22 (P : Params) : Obj := (Obj.mk (Value.type "tuple") none (Data.seq #[] 0) #[])
def o23 (P : Params) : Obj := (Obj.mk (Value.type "dict") none (Data.dict (List.toArray [(DictEntry.mk (η P (τ "__module__")) (Value.str (τ "__module__") 196) (Value.str (τ "lastfaces.errors") 187)), (DictEntry.mk (η P (τ "__firstlineno__")) (Value.str (τ "__firstlineno__") 200) (Value.int 2 199)), (DictEntry.mk (η P (τ "__static_attributes__")) (Value.str (τ "__static_attributes__") 201) (Value.ref 22)), (DictEntry.mk (η P (τ "__weakref__")) (Value.str (τ "__weakref__") 203) (Value.ref 25)), (DictEntry.mk (η P (τ "__doc__")) (Value.str (τ "__doc__") 204) .none)]) 3) #[])
def o24 (P : Params) : Obj := (Obj.mk (Value.type "type") none (Data.cls (ClassData.mk (τ "FaceError") [(Value.type "ValueError")] [(Value.ref 24), (Value.type "ValueError"), (Value.type "Exception"), (Value.type "BaseException"), (Value.type "object")] 23 (τ "FaceError") Bool.true [] [(Value.ref 44), (Value.ref 63), (Value.ref 82), (Value.ref 101), (Value.ref 120), (Value.ref 139), (Value.ref 158), (Value.ref 177), (Value.ref 196), (Value.ref 215), (Value.ref 234), (Value.ref 253), (Value.ref 272), (Value.ref 291), (Value.ref 310), (Value.ref 329), (Value.ref 348), (Value.ref 367), (Value.ref 386), (Value.ref 405), (Value.ref 424), (Value.ref 443), (Value.ref 462), (Value.ref 481), (Value.ref 500), (Value.ref 519), (Value.ref 538), (Value.ref 557), (Value.ref 576), (Value.ref 595), (Value.ref 614), (Value.ref 633), (Value.ref 652), (Value.ref 671), (Value.ref 690), (Value.ref 709), (Value.ref 728), (Value.ref 747), (Value.ref 766), (Value.ref 785), (Value.ref 804), (Value.ref 816)] Bool.false none Bool.false)) (List.toArray [(Option.some (Value.ref 15)), none, (Option.some (Value.str (τ "FaceError") 189)), (Option.some (Value.str (τ "FaceError") 197)), (Option.some (Value.builtin "ValueError.__new__")), (Option.some (Value.bool Bool.true))]))
def o25 (P : Params) : Obj := (Obj.mk (Value.type "getset_descriptor") none (Data.fields (List.toArray [(Value.str (τ "__weakref__") 202), (Value.ref 24), (Value.builtin "ExceptionGroup.__weakref__"), .none])) #[])
def o26 (P : Params) : Obj := (Obj.mk (Value.type "super") none (Data.fields (List.toArray [(Value.ref 24), (Value.ref 24), (Value.ref 24)])) #[])
def o27 (P : Params) : Obj := (Obj.mk (Value.type "builtin_function_or_method") none (Data.fields (List.toArray [(Value.builtin "object.__init_subclass__"), (Value.ref 24)])) #[])
def o28 (P : Params) : Obj := (Obj.mk (Value.type "tuple") none (Data.seq (List.toArray [(Value.ref 24)]) 0) #[])
def o29 (P : Params) : Obj := (Obj.mk (Value.type "builtin_function_or_method") none (Data.fields (List.toArray [(Value.builtin "type.__prepare__"), (Value.type "type")])) #[])
def o30 (P : Params) : Obj := (Obj.mk (Value.type "dict") none (Data.dict (List.toArray [(DictEntry.mk (η P (τ "__module__")) (Value.str (τ "__module__") 214) (Value.str (τ "lastfaces.errors") 187)), (DictEntry.mk (η P (τ "__qualname__")) (Value.str (τ "__qualname__") 216) (Value.str (τ "BadAnswer") 215)), (DictEntry.mk (η P (τ "__firstlineno__")) (Value.str (τ "__firstlineno__") 218) (Value.int 4 217)), (DictEntry.mk (η P (τ "__init__")) (Value.str (τ "__init__") 226) (Value.ref 41)), (DictEntry.mk (η P (τ "__static_attributes__")) (Value.str (τ "__static_attributes__") 228) (Value.ref 42))]) 5) #[])
def g1 (P : Params) : List Obj := [o21 P, o22 P, o23 P, o24 P, o25 P, o26 P, o27 P, o28 P, o29 P, o30 P]
def o31 (P : Params) : Obj := (Obj.mk (Value.type "tuple") none (Data.seq #[] 0) #[])
def o32 (P : Params) : Obj := (Obj.mk .none none (Data.fields (List.toArray [(ι 6), (ι 4), (Value.ref 40)])) #[])
def o33 (P : Params) : Obj := (Obj.mk (Value.type "code") none (Data.fields (List.toArray [(Value.str (τ "BadAnswer") 209), (Value.str (τ "BadAnswer") 210), (Value.str (τ "/claim/cut.py") 211), (ι 4), (ι 0), (ι 0), (ι 0), (ι 0), (Value.ref 31), (Value.bool Bool.false), (ι 181), (Value.ref 32), .none, .none, .none, .none, (ι 212), (ι 4), (Value.str (τ "/claim/cut.py") 213)])) #[])
def o34 (P : Params) : Obj := (Obj.mk (Value.type "frame") none Data.plain (List.toArray [(Option.some (Value.ref 33)), (Option.some (Value.ref 3)), (Option.some (Value.ref 30)), none, (Option.some (Value.str (τ "lastfaces.errors") 187)), none, (Option.some (Value.ref 0))]))
def o35 (P : Params) : Obj := (Obj.mk (Value.type "tuple") none (Data.seq #[] 0) #[])
def o36 (P : Params) : Obj := (Obj.mk .none none (Data.fields #[]) #[])
def o37 (P : Params) : Obj := (Obj.mk (Value.type "tuple") none (Data.seq (List.toArray [(Value.str (τ "self") 222), (Value.str (τ "thing") 223)]) 0) #[])
def o38 (P : Params) : Obj := (Obj.mk (Value.type "tuple") none (Data.seq #[] 0) #[])
def o39 (P : Params) : Obj := (Obj.mk .none none (Data.func (FuncData.mk (τ "__init__") (τ "BadAnswer.__init__") (Arguments.mk [] [(Arg.mk (τ "self") none ⟨6,17,6,21⟩), (Arg.mk (τ "thing") none ⟨6,23,6,28⟩)] none [] [] none []) (FuncBody.stmts [(Stmt.Assign [(Expr.Attribute (Expr.Name (τ "self") ⟨7,8,7,12⟩) (τ "thing") ⟨7,8,7,18⟩)] (Expr.Name (τ "thing") ⟨7,21,7,26⟩) ⟨7,8,7,26⟩)]) (Scope.mk ScopeKind.function [((τ "self"), NameKind.local), ((τ "thing"), NameKind.local)] Bool.false Bool.false []) 0 [] .none .none .none .none none .none .none 0)) #[])
def o40 (P : Params) : Obj := (Obj.mk (Value.type "code") none (Data.fields (List.toArray [(Value.str (τ "__init__") 219), (Value.str (τ "BadAnswer.__init__") 220), (Value.str (τ "/claim/cut.py") 221), (ι 6), (ι 2), (ι 0), (ι 0), (ι 3), (Value.ref 35), (Value.bool Bool.true), (ι 181), (Value.ref 36), .none, (Value.ref 37), (Value.ref 38), (Value.ref 39), (ι 224), (ι 6), (Value.str (τ "/claim/cut.py") 225)])) #[])
def g2 (P : Params) : List Obj := [o31 P, o32 P, o33 P, o34 P, o35 P, o36 P, o37 P, o38 P, o39 P, o40 P]
def o41 (P : Params) : Obj := (Obj.mk (Value.type "function") none (Data.func (FuncData.mk (τ "__init__") (τ "BadAnswer.__init__") (Arguments.mk [] [(Arg.mk (τ "self") none ⟨6,17,6,21⟩), (Arg.mk (τ "thing") none ⟨6,23,6,28⟩)] none [] [] none []) (FuncBody.stmts [(Stmt.Assign [(Expr.Attribute (Expr.Name (τ "self") ⟨7,8,7,12⟩) (τ "thing") ⟨7,8,7,18⟩)] (Expr.Name (τ "thing") ⟨7,21,7,26⟩) ⟨7,8,7,26⟩)]) (Scope.mk ScopeKind.function [((τ "self"), NameKind.local), ((τ "thing"), NameKind.local)] Bool.false Bool.false []) 3 [] .none .none .none (Value.str (τ "lastfaces.errors") 187) none (Value.ref 40) .none 0)) #[])
def o42 (P : Params) : Obj := (Obj.mk (Value.type "tuple") none (Data.seq (List.toArray [(Value.str (τ "thing") 227)]) 0) #[])
def o43 (P : Params) : Obj := (Obj.mk (Value.type "dict") none (Data.dict (List.toArray [(DictEntry.mk (η P (τ "__module__")) (Value.str (τ "__module__") 214) (Value.str (τ "lastfaces.errors") 187)), (DictEntry.mk (η P (τ "__firstlineno__")) (Value.str (τ "__firstlineno__") 218) (Value.int 4 217)), (DictEntry.mk (η P (τ "__init__")) (Value.str (τ "__init__") 226) (Value.ref 41)), (DictEntry.mk (η P (τ "__static_attributes__")) (Value.str (τ "__static_attributes__") 228) (Value.ref 42)), (DictEntry.mk (η P (τ "__doc__")) (Value.str (τ "__doc__") 229) .none)]) 2) #[])
def o44 (P : Params) : Obj := (Obj.mk (Value.type "type") none (Data.cls (ClassData.mk (τ "BadAnswer") [(Value.ref 24)] [(Value.ref 44), (Value.ref 24), (Value.type "ValueError"), (Value.type "Exception"), (Value.type "BaseException"), (Value.type "object")] 43 (τ "BadAnswer") Bool.true [] [] Bool.false none Bool.false)) (List.toArray [(Option.some (Value.ref 28)), none, (Option.some (Value.str (τ "BadAnswer") 207)), (Option.some (Value.str (τ "BadAnswer") 215)), (Option.some (Value.builtin "ValueError.__new__")), (Option.some (Value.bool Bool.true))]))
def o45 (P : Params) : Obj := (Obj.mk (Value.type "super") none (Data.fields (List.toArray [(Value.ref 44), (Value.ref 44), (Value.ref 44)])) #[])
def o46 (P : Params) : Obj := (Obj.mk (Value.type "builtin_function_or_method") none (Data.fields (List.toArray [(Value.builtin "object.__init_subclass__"), (Value.ref 44)])) #[])
def o47 (P : Params) : Obj := (Obj.mk (Value.type "tuple") none (Data.seq (List.toArray [(Value.ref 24)]) 0) #[])
def o48 (P : Params) : Obj := (Obj.mk (Value.type "builtin_function_or_method") none (Data.fields (List.toArray [(Value.builtin "type.__prepare__"), (Value.type "type")])) #[])
def o49 (P : Params) : Obj := (Obj.mk (Value.type "dict") none (Data.dict (List.toArray [(DictEntry.mk (η P (τ "__module__")) (Value.str (τ "__module__") 239) (Value.str (τ "lastfaces.errors") 187)), (DictEntry.mk (η P (τ "__qualname__")) (Value.str (τ "__qualname__") 241) (Value.str (τ "BadAround") 240)), (DictEntry.mk (η P (τ "__firstlineno__")) (Value.str (τ "__firstlineno__") 243) (Value.int 8 242)), (DictEntry.mk (η P (τ "__init__")) (Value.str (τ "__init__") 251) (Value.ref 60)), (DictEntry.mk (η P (τ "__static_attributes__")) (Value.str (τ "__static_attributes__") 253) (Value.ref 61))]) 5) #[])
def o50 (P : Params) : Obj := (Obj.mk (Value.type "tuple") none (Data.seq #[] 0) #[])
def g3 (P : Params) : List Obj := [o41 P, o42 P, o43 P, o44 P, o45 P, o46 P, o47 P, o48 P, o49 P, o50 P]
def o51 (P : Params) : Obj := (Obj.mk .none none (Data.fields (List.toArray [(ι 10), (ι 4), (Value.ref 59)])) #[])
def o52 (P : Params) : Obj := (Obj.mk (Value.type "code") none (Data.fields (List.toArray [(Value.str (τ "BadAround") 234), (Value.str (τ "BadAround") 235), (Value.str (τ "/claim/cut.py") 236), (ι 8), (ι 0), (ι 0), (ι 0), (ι 0), (Value.ref 50), (Value.bool Bool.false), (ι 181), (Value.ref 51), .none, .none, .none, .none, (ι 237), (ι 8), (Value.str (τ "/claim/cut.py") 238)])) #[])
def o53 (P : Params) : Obj := (Obj.mk (Value.type "frame") none Data.plain (List.toArray [(Option.some (Value.ref 52)), (Option.some (Value.ref 3)), (Option.some (Value.ref 49)), none, (Option.some (Value.str (τ "lastfaces.errors") 187)), none, (Option.some (Value.ref 0))]))
def o54 (P : Params) : Obj := (Obj.mk (Value.type "tuple") none (Data.seq #[] 0) #[])
def o55 (P : Params) : Obj := (Obj.mk .none none (Data.fields #[]) #[])
def o56 (P : Params) : Obj := (Obj.mk (Value.type "tuple") none (Data.seq (List.toArray [(Value.str (τ "self") 247), (Value.str (τ "thing") 248)]) 0) #[])
def o57 (P : Params) : Obj := (Obj.mk (Value.type "tuple") none (Data.seq #[] 0) #[])
def o58 (P : Params) : Obj := (Obj.mk .none none (Data.func (FuncData.mk (τ "__init__") (τ "BadAround.__init__") (Arguments.mk [] [(Arg.mk (τ "self") none ⟨10,17,10,21⟩), (Arg.mk (τ "thing") none ⟨10,23,10,28⟩)] none [] [] none []) (FuncBody.stmts [(Stmt.Assign [(Expr.Attribute (Expr.Name (τ "self") ⟨11,8,11,12⟩) (τ "thing") ⟨11,8,11,18⟩)] (Expr.Name (τ "thing") ⟨11,21,11,26⟩) ⟨11,8,11,26⟩)]) (Scope.mk ScopeKind.function [((τ "self"), NameKind.local), ((τ "thing"), NameKind.local)] Bool.false Bool.false []) 0 [] .none .none .none .none none .none .none 0)) #[])
def o59 (P : Params) : Obj := (Obj.mk (Value.type "code") none (Data.fields (List.toArray [(Value.str (τ "__init__") 244), (Value.str (τ "BadAround.__init__") 245), (Value.str (τ "/claim/cut.py") 246), (ι 10), (ι 2), (ι 0), (ι 0), (ι 3), (Value.ref 54), (Value.bool Bool.true), (ι 181), (Value.ref 55), .none, (Value.ref 56), (Value.ref 57), (Value.ref 58), (ι 249), (ι 10), (Value.str (τ "/claim/cut.py") 250)])) #[])
def o60 (P : Params) : Obj := (Obj.mk (Value.type "function") none (Data.func (FuncData.mk (τ "__init__") (τ "BadAround.__init__") (Arguments.mk [] [(Arg.mk (τ "self") none ⟨10,17,10,21⟩), (Arg.mk (τ "thing") none ⟨10,23,10,28⟩)] none [] [] none []) (FuncBody.stmts [(Stmt.Assign [(Expr.Attribute (Expr.Name (τ "self") ⟨11,8,11,12⟩) (τ "thing") ⟨11,8,11,18⟩)] (Expr.Name (τ "thing") ⟨11,21,11,26⟩) ⟨11,8,11,26⟩)]) (Scope.mk ScopeKind.function [((τ "self"), NameKind.local), ((τ "thing"), NameKind.local)] Bool.false Bool.false []) 3 [] .none .none .none (Value.str (τ "lastfaces.errors") 187) none (Value.ref 59) .none 0)) #[])
def g4 (P : Params) : List Obj := [o51 P, o52 P, o53 P, o54 P, o55 P, o56 P, o57 P, o58 P, o59 P, o60 P]
def o61 (P : Params) : Obj := (Obj.mk (Value.type "tuple") none (Data.seq (List.toArray [(Value.str (τ "thing") 252)]) 0) #[])
def o62 (P : Params) : Obj := (Obj.mk (Value.type "dict") none (Data.dict (List.toArray [(DictEntry.mk (η P (τ "__module__")) (Value.str (τ "__module__") 239) (Value.str (τ "lastfaces.errors") 187)), (DictEntry.mk (η P (τ "__firstlineno__")) (Value.str (τ "__firstlineno__") 243) (Value.int 8 242)), (DictEntry.mk (η P (τ "__init__")) (Value.str (τ "__init__") 251) (Value.ref 60)), (DictEntry.mk (η P (τ "__static_attributes__")) (Value.str (τ "__static_attributes__") 253) (Value.ref 61)), (DictEntry.mk (η P (τ "__doc__")) (Value.str (τ "__doc__") 254) .none)]) 2) #[])
def o63 (P : Params) : Obj := (Obj.mk (Value.type "type") none (Data.cls (ClassData.mk (τ "BadAround") [(Value.ref 24)] [(Value.ref 63), (Value.ref 24), (Value.type "ValueError"), (Value.type "Exception"), (Value.type "BaseException"), (Value.type "object")] 62 (τ "BadAround") Bool.true [] [] Bool.false none Bool.false)) (List.toArray [(Option.some (Value.ref 47)), none, (Option.some (Value.str (τ "BadAround") 232)), (Option.some (Value.str (τ "BadAround") 240)), (Option.some (Value.builtin "ValueError.__new__")), (Option.some (Value.bool Bool.true))]))
def o64 (P : Params) : Obj := (Obj.mk (Value.type "super") none (Data.fields (List.toArray [(Value.ref 63), (Value.ref 63), (Value.ref 63)])) #[])
def o65 (P : Params) : Obj := (Obj.mk (Value.type "builtin_function_or_method") none (Data.fields (List.toArray [(Value.builtin "object.__init_subclass__"), (Value.ref 63)])) #[])
def o66 (P : Params) : Obj := (Obj.mk (Value.type "tuple") none (Data.seq (List.toArray [(Value.ref 24)]) 0) #[])
def o67 (P : Params) : Obj := (Obj.mk (Value.type "builtin_function_or_method") none (Data.fields (List.toArray [(Value.builtin "type.__prepare__"), (Value.type "type")])) #[])
def o68 (P : Params) : Obj := (Obj.mk (Value.type "dict") none (Data.dict (List.toArray [(DictEntry.mk (η P (τ "__module__")) (Value.str (τ "__module__") 264) (Value.str (τ "lastfaces.errors") 187)), (DictEntry.mk (η P (τ "__qualname__")) (Value.str (τ "__qualname__") 266) (Value.str (τ "BadAsker") 265)), (DictEntry.mk (η P (τ "__firstlineno__")) (Value.str (τ "__firstlineno__") 268) (Value.int 12 267)), (DictEntry.mk (η P (τ "__init__")) (Value.str (τ "__init__") 276) (Value.ref 79)), (DictEntry.mk (η P (τ "__static_attributes__")) (Value.str (τ "__static_attributes__") 278) (Value.ref 80))]) 5) #[])
def o69 (P : Params) : Obj := (Obj.mk (Value.type "tuple") none (Data.seq #[] 0) #[])
def o70 (P : Params) : Obj := (Obj.mk .none none (Data.fields (List.toArray [(ι 14), (ι 4), (Value.ref 78)])) #[])
def g5 (P : Params) : List Obj := [o61 P, o62 P, o63 P, o64 P, o65 P, o66 P, o67 P, o68 P, o69 P, o70 P]
def o71 (P : Params) : Obj := (Obj.mk (Value.type "code") none (Data.fields (List.toArray [(Value.str (τ "BadAsker") 259), (Value.str (τ "BadAsker") 260), (Value.str (τ "/claim/cut.py") 261), (ι 12), (ι 0), (ι 0), (ι 0), (ι 0), (Value.ref 69), (Value.bool Bool.false), (ι 181), (Value.ref 70), .none, .none, .none, .none, (ι 262), (ι 12), (Value.str (τ "/claim/cut.py") 263)])) #[])
def o72 (P : Params) : Obj := (Obj.mk (Value.type "frame") none Data.plain (List.toArray [(Option.some (Value.ref 71)), (Option.some (Value.ref 3)), (Option.some (Value.ref 68)), none, (Option.some (Value.str (τ "lastfaces.errors") 187)), none, (Option.some (Value.ref 0))]))
def o73 (P : Params) : Obj := (Obj.mk (Value.type "tuple") none (Data.seq #[] 0) #[])
def o74 (P : Params) : Obj := (Obj.mk .none none (Data.fields #[]) #[])
def o75 (P : Params) : Obj := (Obj.mk (Value.type "tuple") none (Data.seq (List.toArray [(Value.str (τ "self") 272), (Value.str (τ "thing") 273)]) 0) #[])
def o76 (P : Params) : Obj := (Obj.mk (Value.type "tuple") none (Data.seq #[] 0) #[])
def o77 (P : Params) : Obj := (Obj.mk .none none (Data.func (FuncData.mk (τ "__init__") (τ "BadAsker.__init__") (Arguments.mk [] [(Arg.mk (τ "self") none ⟨14,17,14,21⟩), (Arg.mk (τ "thing") none ⟨14,23,14,28⟩)] none [] [] none []) (FuncBody.stmts [(Stmt.Assign [(Expr.Attribute (Expr.Name (τ "self") ⟨15,8,15,12⟩) (τ "thing") ⟨15,8,15,18⟩)] (Expr.Name (τ "thing") ⟨15,21,15,26⟩) ⟨15,8,15,26⟩)]) (Scope.mk ScopeKind.function [((τ "self"), NameKind.local), ((τ "thing"), NameKind.local)] Bool.false Bool.false []) 0 [] .none .none .none .none none .none .none 0)) #[])
def o78 (P : Params) : Obj := (Obj.mk (Value.type "code") none (Data.fields (List.toArray [(Value.str (τ "__init__") 269), (Value.str (τ "BadAsker.__init__") 270), (Value.str (τ "/claim/cut.py") 271), (ι 14), (ι 2), (ι 0), (ι 0), (ι 3), (Value.ref 73), (Value.bool Bool.true), (ι 181), (Value.ref 74), .none, (Value.ref 75), (Value.ref 76), (Value.ref 77), (ι 274), (ι 14), (Value.str (τ "/claim/cut.py") 275)])) #[])
def o79 (P : Params) : Obj := (Obj.mk (Value.type "function") none (Data.func (FuncData.mk (τ "__init__") (τ "BadAsker.__init__") (Arguments.mk [] [(Arg.mk (τ "self") none ⟨14,17,14,21⟩), (Arg.mk (τ "thing") none ⟨14,23,14,28⟩)] none [] [] none []) (FuncBody.stmts [(Stmt.Assign [(Expr.Attribute (Expr.Name (τ "self") ⟨15,8,15,12⟩) (τ "thing") ⟨15,8,15,18⟩)] (Expr.Name (τ "thing") ⟨15,21,15,26⟩) ⟨15,8,15,26⟩)]) (Scope.mk ScopeKind.function [((τ "self"), NameKind.local), ((τ "thing"), NameKind.local)] Bool.false Bool.false []) 3 [] .none .none .none (Value.str (τ "lastfaces.errors") 187) none (Value.ref 78) .none 0)) #[])
def o80 (P : Params) : Obj := (Obj.mk (Value.type "tuple") none (Data.seq (List.toArray [(Value.str (τ "thing") 277)]) 0) #[])
def g6 (P : Params) : List Obj := [o71 P, o72 P, o73 P, o74 P, o75 P, o76 P, o77 P, o78 P, o79 P, o80 P]
def o81 (P : Params) : Obj := (Obj.mk (Value.type "dict") none (Data.dict (List.toArray [(DictEntry.mk (η P (τ "__module__")) (Value.str (τ "__module__") 264) (Value.str (τ "lastfaces.errors") 187)), (DictEntry.mk (η P (τ "__firstlineno__")) (Value.str (τ "__firstlineno__") 268) (Value.int 12 267)), (DictEntry.mk (η P (τ "__init__")) (Value.str (τ "__init__") 276) (Value.ref 79)), (DictEntry.mk (η P (τ "__static_attributes__")) (Value.str (τ "__static_attributes__") 278) (Value.ref 80)), (DictEntry.mk (η P (τ "__doc__")) (Value.str (τ "__doc__") 279) .none)]) 2) #[])
def o82 (P : Params) : Obj := (Obj.mk (Value.type "type") none (Data.cls (ClassData.mk (τ "BadAsker") [(Value.ref 24)] [(Value.ref 82), (Value.ref 24), (Value.type "ValueError"), (Value.type "Exception"), (Value.type "BaseException"), (Value.type "object")] 81 (τ "BadAsker") Bool.true [] [] Bool.false none Bool.false)) (List.toArray [(Option.some (Value.ref 66)), none, (Option.some (Value.str (τ "BadAsker") 257)), (Option.some (Value.str (τ "BadAsker") 265)), (Option.some (Value.builtin "ValueError.__new__")), (Option.some (Value.bool Bool.true))]))
def o83 (P : Params) : Obj := (Obj.mk (Value.type "super") none (Data.fields (List.toArray [(Value.ref 82), (Value.ref 82), (Value.ref 82)])) #[])
def o84 (P : Params) : Obj := (Obj.mk (Value.type "builtin_function_or_method") none (Data.fields (List.toArray [(Value.builtin "object.__init_subclass__"), (Value.ref 82)])) #[])
def o85 (P : Params) : Obj := (Obj.mk (Value.type "tuple") none (Data.seq (List.toArray [(Value.ref 24)]) 0) #[])
def o86 (P : Params) : Obj := (Obj.mk (Value.type "builtin_function_or_method") none (Data.fields (List.toArray [(Value.builtin "type.__prepare__"), (Value.type "type")])) #[])
def o87 (P : Params) : Obj := (Obj.mk (Value.type "dict") none (Data.dict (List.toArray [(DictEntry.mk (η P (τ "__module__")) (Value.str (τ "__module__") 289) (Value.str (τ "lastfaces.errors") 187)), (DictEntry.mk (η P (τ "__qualname__")) (Value.str (τ "__qualname__") 291) (Value.str (τ "BadChutes") 290)), (DictEntry.mk (η P (τ "__firstlineno__")) (Value.str (τ "__firstlineno__") 293) (Value.int 16 292)), (DictEntry.mk (η P (τ "__init__")) (Value.str (τ "__init__") 301) (Value.ref 98)), (DictEntry.mk (η P (τ "__static_attributes__")) (Value.str (τ "__static_attributes__") 303) (Value.ref 99))]) 5) #[])
def o88 (P : Params) : Obj := (Obj.mk (Value.type "tuple") none (Data.seq #[] 0) #[])
def o89 (P : Params) : Obj := (Obj.mk .none none (Data.fields (List.toArray [(ι 18), (ι 4), (Value.ref 97)])) #[])
def o90 (P : Params) : Obj := (Obj.mk (Value.type "code") none (Data.fields (List.toArray [(Value.str (τ "BadChutes") 284), (Value.str (τ "BadChutes") 285), (Value.str (τ "/claim/cut.py") 286), (ι 16), (ι 0), (ι 0), (ι 0), (ι 0), (Value.ref 88), (Value.bool Bool.false), (ι 181), (Value.ref 89), .none, .none, .none, .none, (ι 287), (ι 16), (Value.str (τ "/claim/cut.py") 288)])) #[])
def g7 (P : Params) : List Obj := [o81 P, o82 P, o83 P, o84 P, o85 P, o86 P, o87 P, o88 P, o89 P, o90 P]
def o91 (P : Params) : Obj := (Obj.mk (Value.type "frame") none Data.plain (List.toArray [(Option.some (Value.ref 90)), (Option.some (Value.ref 3)), (Option.some (Value.ref 87)), none, (Option.some (Value.str (τ "lastfaces.errors") 187)), none, (Option.some (Value.ref 0))]))
def o92 (P : Params) : Obj := (Obj.mk (Value.type "tuple") none (Data.seq #[] 0) #[])
def o93 (P : Params) : Obj := (Obj.mk .none none (Data.fields #[]) #[])
def o94 (P : Params) : Obj := (Obj.mk (Value.type "tuple") none (Data.seq (List.toArray [(Value.str (τ "self") 297), (Value.str (τ "index") 298)]) 0) #[])
def o95 (P : Params) : Obj := (Obj.mk (Value.type "tuple") none (Data.seq #[] 0) #[])
def o96 (P : Params) : Obj := (Obj.mk .none none (Data.func (FuncData.mk (τ "__init__") (τ "BadChutes.__init__") (Arguments.mk [] [(Arg.mk (τ "self") none ⟨18,17,18,21⟩), (Arg.mk (τ "index") none ⟨18,23,18,28⟩)] none [] [] none []) (FuncBody.stmts [(Stmt.Assign [(Expr.Attribute (Expr.Name (τ "self") ⟨19,8,19,12⟩) (τ "index") ⟨19,8,19,18⟩)] (Expr.Name (τ "index") ⟨19,21,19,26⟩) ⟨19,8,19,26⟩)]) (Scope.mk ScopeKind.function [((τ "self"), NameKind.local), ((τ "index"), NameKind.local)] Bool.false Bool.false []) 0 [] .none .none .none .none none .none .none 0)) #[])
def o97 (P : Params) : Obj := (Obj.mk (Value.type "code") none (Data.fields (List.toArray [(Value.str (τ "__init__") 294), (Value.str (τ "BadChutes.__init__") 295), (Value.str (τ "/claim/cut.py") 296), (ι 18), (ι 2), (ι 0), (ι 0), (ι 3), (Value.ref 92), (Value.bool Bool.true), (ι 181), (Value.ref 93), .none, (Value.ref 94), (Value.ref 95), (Value.ref 96), (ι 299), (ι 18), (Value.str (τ "/claim/cut.py") 300)])) #[])
def o98 (P : Params) : Obj := (Obj.mk (Value.type "function") none (Data.func (FuncData.mk (τ "__init__") (τ "BadChutes.__init__") (Arguments.mk [] [(Arg.mk (τ "self") none ⟨18,17,18,21⟩), (Arg.mk (τ "index") none ⟨18,23,18,28⟩)] none [] [] none []) (FuncBody.stmts [(Stmt.Assign [(Expr.Attribute (Expr.Name (τ "self") ⟨19,8,19,12⟩) (τ "index") ⟨19,8,19,18⟩)] (Expr.Name (τ "index") ⟨19,21,19,26⟩) ⟨19,8,19,26⟩)]) (Scope.mk ScopeKind.function [((τ "self"), NameKind.local), ((τ "index"), NameKind.local)] Bool.false Bool.false []) 3 [] .none .none .none (Value.str (τ "lastfaces.errors") 187) none (Value.ref 97) .none 0)) #[])
def o99 (P : Params) : Obj := (Obj.mk (Value.type "tuple") none (Data.seq (List.toArray [(Value.str (τ "index") 302)]) 0) #[])
def o100 (P : Params) : Obj := (Obj.mk (Value.type "dict") none (Data.dict (List.toArray [(DictEntry.mk (η P (τ "__module__")) (Value.str (τ "__module__") 289) (Value.str (τ "lastfaces.errors") 187)), (DictEntry.mk (η P (τ "__firstlineno__")) (Value.str (τ "__firstlineno__") 293) (Value.int 16 292)), (DictEntry.mk (η P (τ "__init__")) (Value.str (τ "__init__") 301) (Value.ref 98)), (DictEntry.mk (η P (τ "__static_attributes__")) (Value.str (τ "__static_attributes__") 303) (Value.ref 99)), (DictEntry.mk (η P (τ "__doc__")) (Value.str (τ "__doc__") 304) .none)]) 2) #[])
def g8 (P : Params) : List Obj := [o91 P, o92 P, o93 P, o94 P, o95 P, o96 P, o97 P, o98 P, o99 P, o100 P]
def o101 (P : Params) : Obj := (Obj.mk (Value.type "type") none (Data.cls (ClassData.mk (τ "BadChutes") [(Value.ref 24)] [(Value.ref 101), (Value.ref 24), (Value.type "ValueError"), (Value.type "Exception"), (Value.type "BaseException"), (Value.type "object")] 100 (τ "BadChutes") Bool.true [] [] Bool.false none Bool.false)) (List.toArray [(Option.some (Value.ref 85)), none, (Option.some (Value.str (τ "BadChutes") 282)), (Option.some (Value.str (τ "BadChutes") 290)), (Option.some (Value.builtin "ValueError.__new__")), (Option.some (Value.bool Bool.true))]))
def o102 (P : Params) : Obj := (Obj.mk (Value.type "super") none (Data.fields (List.toArray [(Value.ref 101), (Value.ref 101), (Value.ref 101)])) #[])
def o103 (P : Params) : Obj := (Obj.mk (Value.type "builtin_function_or_method") none (Data.fields (List.toArray [(Value.builtin "object.__init_subclass__"), (Value.ref 101)])) #[])
def o104 (P : Params) : Obj := (Obj.mk (Value.type "tuple") none (Data.seq (List.toArray [(Value.ref 24)]) 0) #[])
def o105 (P : Params) : Obj := (Obj.mk (Value.type "builtin_function_or_method") none (Data.fields (List.toArray [(Value.builtin "type.__prepare__"), (Value.type "type")])) #[])
def o106 (P : Params) : Obj := (Obj.mk (Value.type "dict") none (Data.dict (List.toArray [(DictEntry.mk (η P (τ "__module__")) (Value.str (τ "__module__") 314) (Value.str (τ "lastfaces.errors") 187)), (DictEntry.mk (η P (τ "__qualname__")) (Value.str (τ "__qualname__") 316) (Value.str (τ "BadClaim") 315)), (DictEntry.mk (η P (τ "__firstlineno__")) (Value.str (τ "__firstlineno__") 318) (Value.int 20 317)), (DictEntry.mk (η P (τ "__init__")) (Value.str (τ "__init__") 326) (Value.ref 117)), (DictEntry.mk (η P (τ "__static_attributes__")) (Value.str (τ "__static_attributes__") 328) (Value.ref 118))]) 5) #[])
def o107 (P : Params) : Obj := (Obj.mk (Value.type "tuple") none (Data.seq #[] 0) #[])
def o108 (P : Params) : Obj := (Obj.mk .none none (Data.fields (List.toArray [(ι 22), (ι 4), (Value.ref 116)])) #[])
def o109 (P : Params) : Obj := (Obj.mk (Value.type "code") none (Data.fields (List.toArray [(Value.str (τ "BadClaim") 309), (Value.str (τ "BadClaim") 310), (Value.str (τ "/claim/cut.py") 311), (ι 20), (ι 0), (ι 0), (ι 0), (ι 0), (Value.ref 107), (Value.bool Bool.false), (ι 181), (Value.ref 108), .none, .none, .none, .none, (ι 312), (ι 20), (Value.str (τ "/claim/cut.py") 313)])) #[])
def o110 (P : Params) : Obj := (Obj.mk (Value.type "frame") none Data.plain (List.toArray [(Option.some (Value.ref 109)), (Option.some (Value.ref 3)), (Option.some (Value.ref 106)), none, (Option.some (Value.str (τ "lastfaces.errors") 187)), none, (Option.some (Value.ref 0))]))
def g9 (P : Params) : List Obj := [o101 P, o102 P, o103 P, o104 P, o105 P, o106 P, o107 P, o108 P, o109 P, o110 P]
def o111 (P : Params) : Obj := (Obj.mk (Value.type "tuple") none (Data.seq #[] 0) #[])
def o112 (P : Params) : Obj := (Obj.mk .none none (Data.fields #[]) #[])
def o113 (P : Params) : Obj := (Obj.mk (Value.type "tuple") none (Data.seq (List.toArray [(Value.str (τ "self") 322), (Value.str (τ "thing") 323)]) 0) #[])
def o114 (P : Params) : Obj := (Obj.mk (Value.type "tuple") none (Data.seq #[] 0) #[])
def o115 (P : Params) : Obj := (Obj.mk .none none (Data.func (FuncData.mk (τ "__init__") (τ "BadClaim.__init__") (Arguments.mk [] [(Arg.mk (τ "self") none ⟨22,17,22,21⟩), (Arg.mk (τ "thing") none ⟨22,23,22,28⟩)] none [] [] none []) (FuncBody.stmts [(Stmt.Assign [(Expr.Attribute (Expr.Name (τ "self") ⟨23,8,23,12⟩) (τ "thing") ⟨23,8,23,18⟩)] (Expr.Name (τ "thing") ⟨23,21,23,26⟩) ⟨23,8,23,26⟩)]) (Scope.mk ScopeKind.function [((τ "self"), NameKind.local), ((τ "thing"), NameKind.local)] Bool.false Bool.false []) 0 [] .none .none .none .none none .none .none 0)) #[])
def o116 (P : Params) : Obj := (Obj.mk (Value.type "code") none (Data.fields (List.toArray [(Value.str (τ "__init__") 319), (Value.str (τ "BadClaim.__init__") 320), (Value.str (τ "/claim/cut.py") 321), (ι 22), (ι 2), (ι 0), (ι 0), (ι 3), (Value.ref 111), (Value.bool Bool.true), (ι 181), (Value.ref 112), .none, (Value.ref 113), (Value.ref 114), (Value.ref 115), (ι 324), (ι 22), (Value.str (τ "/claim/cut.py") 325)])) #[])
def o117 (P : Params) : Obj := (Obj.mk (Value.type "function") none (Data.func (FuncData.mk (τ "__init__") (τ "BadClaim.__init__") (Arguments.mk [] [(Arg.mk (τ "self") none ⟨22,17,22,21⟩), (Arg.mk (τ "thing") none ⟨22,23,22,28⟩)] none [] [] none []) (FuncBody.stmts [(Stmt.Assign [(Expr.Attribute (Expr.Name (τ "self") ⟨23,8,23,12⟩) (τ "thing") ⟨23,8,23,18⟩)] (Expr.Name (τ "thing") ⟨23,21,23,26⟩) ⟨23,8,23,26⟩)]) (Scope.mk ScopeKind.function [((τ "self"), NameKind.local), ((τ "thing"), NameKind.local)] Bool.false Bool.false []) 3 [] .none .none .none (Value.str (τ "lastfaces.errors") 187) none (Value.ref 116) .none 0)) #[])
def o118 (P : Params) : Obj := (Obj.mk (Value.type "tuple") none (Data.seq (List.toArray [(Value.str (τ "thing") 327)]) 0) #[])
def o119 (P : Params) : Obj := (Obj.mk (Value.type "dict") none (Data.dict (List.toArray [(DictEntry.mk (η P (τ "__module__")) (Value.str (τ "__module__") 314) (Value.str (τ "lastfaces.errors") 187)), (DictEntry.mk (η P (τ "__firstlineno__")) (Value.str (τ "__firstlineno__") 318) (Value.int 20 317)), (DictEntry.mk (η P (τ "__init__")) (Value.str (τ "__init__") 326) (Value.ref 117)), (DictEntry.mk (η P (τ "__static_attributes__")) (Value.str (τ "__static_attributes__") 328) (Value.ref 118)), (DictEntry.mk (η P (τ "__doc__")) (Value.str (τ "__doc__") 329) .none)]) 2) #[])
def o120 (P : Params) : Obj := (Obj.mk (Value.type "type") none (Data.cls (ClassData.mk (τ "BadClaim") [(Value.ref 24)] [(Value.ref 120), (Value.ref 24), (Value.type "ValueError"), (Value.type "Exception"), (Value.type "BaseException"), (Value.type "object")] 119 (τ "BadClaim") Bool.true [] [] Bool.false none Bool.false)) (List.toArray [(Option.some (Value.ref 104)), none, (Option.some (Value.str (τ "BadClaim") 307)), (Option.some (Value.str (τ "BadClaim") 315)), (Option.some (Value.builtin "ValueError.__new__")), (Option.some (Value.bool Bool.true))]))
def g10 (P : Params) : List Obj := [o111 P, o112 P, o113 P, o114 P, o115 P, o116 P, o117 P, o118 P, o119 P, o120 P]
def o121 (P : Params) : Obj := (Obj.mk (Value.type "super") none (Data.fields (List.toArray [(Value.ref 120), (Value.ref 120), (Value.ref 120)])) #[])
def o122 (P : Params) : Obj := (Obj.mk (Value.type "builtin_function_or_method") none (Data.fields (List.toArray [(Value.builtin "object.__init_subclass__"), (Value.ref 120)])) #[])
def o123 (P : Params) : Obj := (Obj.mk (Value.type "tuple") none (Data.seq (List.toArray [(Value.ref 24)]) 0) #[])
def o124 (P : Params) : Obj := (Obj.mk (Value.type "builtin_function_or_method") none (Data.fields (List.toArray [(Value.builtin "type.__prepare__"), (Value.type "type")])) #[])
def o125 (P : Params) : Obj := (Obj.mk (Value.type "dict") none (Data.dict (List.toArray [(DictEntry.mk (η P (τ "__module__")) (Value.str (τ "__module__") 339) (Value.str (τ "lastfaces.errors") 187)), (DictEntry.mk (η P (τ "__qualname__")) (Value.str (τ "__qualname__") 341) (Value.str (τ "BadClaims") 340)), (DictEntry.mk (η P (τ "__firstlineno__")) (Value.str (τ "__firstlineno__") 343) (Value.int 24 342)), (DictEntry.mk (η P (τ "__init__")) (Value.str (τ "__init__") 351) (Value.ref 136)), (DictEntry.mk (η P (τ "__static_attributes__")) (Value.str (τ "__static_attributes__") 353) (Value.ref 137))]) 5) #[])
def o126 (P : Params) : Obj := (Obj.mk (Value.type "tuple") none (Data.seq #[] 0) #[])
def o127 (P : Params) : Obj := (Obj.mk .none none (Data.fields (List.toArray [(ι 26), (ι 4), (Value.ref 135)])) #[])
def o128 (P : Params) : Obj := (Obj.mk (Value.type "code") none (Data.fields (List.toArray [(Value.str (τ "BadClaims") 334), (Value.str (τ "BadClaims") 335), (Value.str (τ "/claim/cut.py") 336), (ι 24), (ι 0), (ι 0), (ι 0), (ι 0), (Value.ref 126), (Value.bool Bool.false), (ι 181), (Value.ref 127), .none, .none, .none, .none, (ι 337), (ι 24), (Value.str (τ "/claim/cut.py") 338)])) #[])
def o129 (P : Params) : Obj := (Obj.mk (Value.type "frame") none Data.plain (List.toArray [(Option.some (Value.ref 128)), (Option.some (Value.ref 3)), (Option.some (Value.ref 125)), none, (Option.some (Value.str (τ "lastfaces.errors") 187)), none, (Option.some (Value.ref 0))]))
def o130 (P : Params) : Obj := (Obj.mk (Value.type "tuple") none (Data.seq #[] 0) #[])
def g11 (P : Params) : List Obj := [o121 P, o122 P, o123 P, o124 P, o125 P, o126 P, o127 P, o128 P, o129 P, o130 P]
def o131 (P : Params) : Obj := (Obj.mk .none none (Data.fields #[]) #[])
def o132 (P : Params) : Obj := (Obj.mk (Value.type "tuple") none (Data.seq (List.toArray [(Value.str (τ "self") 347), (Value.str (τ "index") 348)]) 0) #[])
def o133 (P : Params) : Obj := (Obj.mk (Value.type "tuple") none (Data.seq #[] 0) #[])
def o134 (P : Params) : Obj := (Obj.mk .none none (Data.func (FuncData.mk (τ "__init__") (τ "BadClaims.__init__") (Arguments.mk [] [(Arg.mk (τ "self") none ⟨26,17,26,21⟩), (Arg.mk (τ "index") none ⟨26,23,26,28⟩)] none [] [] none []) (FuncBody.stmts [(Stmt.Assign [(Expr.Attribute (Expr.Name (τ "self") ⟨27,8,27,12⟩) (τ "index") ⟨27,8,27,18⟩)] (Expr.Name (τ "index") ⟨27,21,27,26⟩) ⟨27,8,27,26⟩)]) (Scope.mk ScopeKind.function [((τ "self"), NameKind.local), ((τ "index"), NameKind.local)] Bool.false Bool.false []) 0 [] .none .none .none .none none .none .none 0)) #[])
def o135 (P : Params) : Obj := (Obj.mk (Value.type "code") none (Data.fields (List.toArray [(Value.str (τ "__init__") 344), (Value.str (τ "BadClaims.__init__") 345), (Value.str (τ "/claim/cut.py") 346), (ι 26), (ι 2), (ι 0), (ι 0), (ι 3), (Value.ref 130), (Value.bool Bool.true), (ι 181), (Value.ref 131), .none, (Value.ref 132), (Value.ref 133), (Value.ref 134), (ι 349), (ι 26), (Value.str (τ "/claim/cut.py") 350)])) #[])
def o136 (P : Params) : Obj := (Obj.mk (Value.type "function") none (Data.func (FuncData.mk (τ "__init__") (τ "BadClaims.__init__") (Arguments.mk [] [(Arg.mk (τ "self") none ⟨26,17,26,21⟩), (Arg.mk (τ "index") none ⟨26,23,26,28⟩)] none [] [] none []) (FuncBody.stmts [(Stmt.Assign [(Expr.Attribute (Expr.Name (τ "self") ⟨27,8,27,12⟩) (τ "index") ⟨27,8,27,18⟩)] (Expr.Name (τ "index") ⟨27,21,27,26⟩) ⟨27,8,27,26⟩)]) (Scope.mk ScopeKind.function [((τ "self"), NameKind.local), ((τ "index"), NameKind.local)] Bool.false Bool.false []) 3 [] .none .none .none (Value.str (τ "lastfaces.errors") 187) none (Value.ref 135) .none 0)) #[])
def o137 (P : Params) : Obj := (Obj.mk (Value.type "tuple") none (Data.seq (List.toArray [(Value.str (τ "index") 352)]) 0) #[])
def o138 (P : Params) : Obj := (Obj.mk (Value.type "dict") none (Data.dict (List.toArray [(DictEntry.mk (η P (τ "__module__")) (Value.str (τ "__module__") 339) (Value.str (τ "lastfaces.errors") 187)), (DictEntry.mk (η P (τ "__firstlineno__")) (Value.str (τ "__firstlineno__") 343) (Value.int 24 342)), (DictEntry.mk (η P (τ "__init__")) (Value.str (τ "__init__") 351) (Value.ref 136)), (DictEntry.mk (η P (τ "__static_attributes__")) (Value.str (τ "__static_attributes__") 353) (Value.ref 137)), (DictEntry.mk (η P (τ "__doc__")) (Value.str (τ "__doc__") 354) .none)]) 2) #[])
def o139 (P : Params) : Obj := (Obj.mk (Value.type "type") none (Data.cls (ClassData.mk (τ "BadClaims") [(Value.ref 24)] [(Value.ref 139), (Value.ref 24), (Value.type "ValueError"), (Value.type "Exception"), (Value.type "BaseException"), (Value.type "object")] 138 (τ "BadClaims") Bool.true [] [] Bool.false none Bool.false)) (List.toArray [(Option.some (Value.ref 123)), none, (Option.some (Value.str (τ "BadClaims") 332)), (Option.some (Value.str (τ "BadClaims") 340)), (Option.some (Value.builtin "ValueError.__new__")), (Option.some (Value.bool Bool.true))]))
def o140 (P : Params) : Obj := (Obj.mk (Value.type "super") none (Data.fields (List.toArray [(Value.ref 139), (Value.ref 139), (Value.ref 139)])) #[])
def g12 (P : Params) : List Obj := [o131 P, o132 P, o133 P, o134 P, o135 P, o136 P, o137 P, o138 P, o139 P, o140 P]
def o141 (P : Params) : Obj := (Obj.mk (Value.type "builtin_function_or_method") none (Data.fields (List.toArray [(Value.builtin "object.__init_subclass__"), (Value.ref 139)])) #[])
def o142 (P : Params) : Obj := (Obj.mk (Value.type "tuple") none (Data.seq (List.toArray [(Value.ref 24)]) 0) #[])
def o143 (P : Params) : Obj := (Obj.mk (Value.type "builtin_function_or_method") none (Data.fields (List.toArray [(Value.builtin "type.__prepare__"), (Value.type "type")])) #[])
def o144 (P : Params) : Obj := (Obj.mk (Value.type "dict") none (Data.dict (List.toArray [(DictEntry.mk (η P (τ "__module__")) (Value.str (τ "__module__") 364) (Value.str (τ "lastfaces.errors") 187)), (DictEntry.mk (η P (τ "__qualname__")) (Value.str (τ "__qualname__") 366) (Value.str (τ "BadDeed") 365)), (DictEntry.mk (η P (τ "__firstlineno__")) (Value.str (τ "__firstlineno__") 368) (Value.int 28 367)), (DictEntry.mk (η P (τ "__init__")) (Value.str (τ "__init__") 376) (Value.ref 155)), (DictEntry.mk (η P (τ "__static_attributes__")) (Value.str (τ "__static_attributes__") 378) (Value.ref 156))]) 5) #[])
def o145 (P : Params) : Obj := (Obj.mk (Value.type "tuple") none (Data.seq #[] 0) #[])
def o146 (P : Params) : Obj := (Obj.mk .none none (Data.fields (List.toArray [(ι 30), (ι 4), (Value.ref 154)])) #[])
def o147 (P : Params) : Obj := (Obj.mk (Value.type "code") none (Data.fields (List.toArray [(Value.str (τ "BadDeed") 359), (Value.str (τ "BadDeed") 360), (Value.str (τ "/claim/cut.py") 361), (ι 28), (ι 0), (ι 0), (ι 0), (ι 0), (Value.ref 145), (Value.bool Bool.false), (ι 181), (Value.ref 146), .none, .none, .none, .none, (ι 362), (ι 28), (Value.str (τ "/claim/cut.py") 363)])) #[])
def o148 (P : Params) : Obj := (Obj.mk (Value.type "frame") none Data.plain (List.toArray [(Option.some (Value.ref 147)), (Option.some (Value.ref 3)), (Option.some (Value.ref 144)), none, (Option.some (Value.str (τ "lastfaces.errors") 187)), none, (Option.some (Value.ref 0))]))
def o149 (P : Params) : Obj := (Obj.mk (Value.type "tuple") none (Data.seq #[] 0) #[])
def o150 (P : Params) : Obj := (Obj.mk .none none (Data.fields #[]) #[])
def g13 (P : Params) : List Obj := [o141 P, o142 P, o143 P, o144 P, o145 P, o146 P, o147 P, o148 P, o149 P, o150 P]
def o151 (P : Params) : Obj := (Obj.mk (Value.type "tuple") none (Data.seq (List.toArray [(Value.str (τ "self") 372), (Value.str (τ "thing") 373)]) 0) #[])
def o152 (P : Params) : Obj := (Obj.mk (Value.type "tuple") none (Data.seq #[] 0) #[])
def o153 (P : Params) : Obj := (Obj.mk .none none (Data.func (FuncData.mk (τ "__init__") (τ "BadDeed.__init__") (Arguments.mk [] [(Arg.mk (τ "self") none ⟨30,17,30,21⟩), (Arg.mk (τ "thing") none ⟨30,23,30,28⟩)] none [] [] none []) (FuncBody.stmts [(Stmt.Assign [(Expr.Attribute (Expr.Name (τ "self") ⟨31,8,31,12⟩) (τ "thing") ⟨31,8,31,18⟩)] (Expr.Name (τ "thing") ⟨31,21,31,26⟩) ⟨31,8,31,26⟩)]) (Scope.mk ScopeKind.function [((τ "self"), NameKind.local), ((τ "thing"), NameKind.local)] Bool.false Bool.false []) 0 [] .none .none .none .none none .none .none 0)) #[])
def o154 (P : Params) : Obj := (Obj.mk (Value.type "code") none (Data.fields (List.toArray [(Value.str (τ "__init__") 369), (Value.str (τ "BadDeed.__init__") 370), (Value.str (τ "/claim/cut.py") 371), (ι 30), (ι 2), (ι 0), (ι 0), (ι 3), (Value.ref 149), (Value.bool Bool.true), (ι 181), (Value.ref 150), .none, (Value.ref 151), (Value.ref 152), (Value.ref 153), (ι 374), (ι 30), (Value.str (τ "/claim/cut.py") 375)])) #[])
def o155 (P : Params) : Obj := (Obj.mk (Value.type "function") none (Data.func (FuncData.mk (τ "__init__") (τ "BadDeed.__init__") (Arguments.mk [] [(Arg.mk (τ "self") none ⟨30,17,30,21⟩), (Arg.mk (τ "thing") none ⟨30,23,30,28⟩)] none [] [] none []) (FuncBody.stmts [(Stmt.Assign [(Expr.Attribute (Expr.Name (τ "self") ⟨31,8,31,12⟩) (τ "thing") ⟨31,8,31,18⟩)] (Expr.Name (τ "thing") ⟨31,21,31,26⟩) ⟨31,8,31,26⟩)]) (Scope.mk ScopeKind.function [((τ "self"), NameKind.local), ((τ "thing"), NameKind.local)] Bool.false Bool.false []) 3 [] .none .none .none (Value.str (τ "lastfaces.errors") 187) none (Value.ref 154) .none 0)) #[])
def o156 (P : Params) : Obj := (Obj.mk (Value.type "tuple") none (Data.seq (List.toArray [(Value.str (τ "thing") 377)]) 0) #[])
def o157 (P : Params) : Obj := (Obj.mk (Value.type "dict") none (Data.dict (List.toArray [(DictEntry.mk (η P (τ "__module__")) (Value.str (τ "__module__") 364) (Value.str (τ "lastfaces.errors") 187)), (DictEntry.mk (η P (τ "__firstlineno__")) (Value.str (τ "__firstlineno__") 368) (Value.int 28 367)), (DictEntry.mk (η P (τ "__init__")) (Value.str (τ "__init__") 376) (Value.ref 155)), (DictEntry.mk (η P (τ "__static_attributes__")) (Value.str (τ "__static_attributes__") 378) (Value.ref 156)), (DictEntry.mk (η P (τ "__doc__")) (Value.str (τ "__doc__") 379) .none)]) 2) #[])
def o158 (P : Params) : Obj := (Obj.mk (Value.type "type") none (Data.cls (ClassData.mk (τ "BadDeed") [(Value.ref 24)] [(Value.ref 158), (Value.ref 24), (Value.type "ValueError"), (Value.type "Exception"), (Value.type "BaseException"), (Value.type "object")] 157 (τ "BadDeed") Bool.true [] [] Bool.false none Bool.false)) (List.toArray [(Option.some (Value.ref 142)), none, (Option.some (Value.str (τ "BadDeed") 357)), (Option.some (Value.str (τ "BadDeed") 365)), (Option.some (Value.builtin "ValueError.__new__")), (Option.some (Value.bool Bool.true))]))
def o159 (P : Params) : Obj := (Obj.mk (Value.type "super") none (Data.fields (List.toArray [(Value.ref 158), (Value.ref 158), (Value.ref 158)])) #[])
def o160 (P : Params) : Obj := (Obj.mk (Value.type "builtin_function_or_method") none (Data.fields (List.toArray [(Value.builtin "object.__init_subclass__"), (Value.ref 158)])) #[])
def g14 (P : Params) : List Obj := [o151 P, o152 P, o153 P, o154 P, o155 P, o156 P, o157 P, o158 P, o159 P, o160 P]
def o161 (P : Params) : Obj := (Obj.mk (Value.type "tuple") none (Data.seq (List.toArray [(Value.ref 24)]) 0) #[])
def o162 (P : Params) : Obj := (Obj.mk (Value.type "builtin_function_or_method") none (Data.fields (List.toArray [(Value.builtin "type.__prepare__"), (Value.type "type")])) #[])
def o163 (P : Params) : Obj := (Obj.mk (Value.type "dict") none (Data.dict (List.toArray [(DictEntry.mk (η P (τ "__module__")) (Value.str (τ "__module__") 389) (Value.str (τ "lastfaces.errors") 187)), (DictEntry.mk (η P (τ "__qualname__")) (Value.str (τ "__qualname__") 391) (Value.str (τ "BadDoors") 390)), (DictEntry.mk (η P (τ "__firstlineno__")) (Value.str (τ "__firstlineno__") 393) (Value.int 32 392)), (DictEntry.mk (η P (τ "__init__")) (Value.str (τ "__init__") 401) (Value.ref 174)), (DictEntry.mk (η P (τ "__static_attributes__")) (Value.str (τ "__static_attributes__") 403) (Value.ref 175))]) 5) #[])
def o164 (P : Params) : Obj := (Obj.mk (Value.type "tuple") none (Data.seq #[] 0) #[])
def o165 (P : Params) : Obj := (Obj.mk .none none (Data.fields (List.toArray [(ι 34), (ι 4), (Value.ref 173)])) #[])
def o166 (P : Params) : Obj := (Obj.mk (Value.type "code") none (Data.fields (List.toArray [(Value.str (τ "BadDoors") 384), (Value.str (τ "BadDoors") 385), (Value.str (τ "/claim/cut.py") 386), (ι 32), (ι 0), (ι 0), (ι 0), (ι 0), (Value.ref 164), (Value.bool Bool.false), (ι 181), (Value.ref 165), .none, .none, .none, .none, (ι 387), (ι 32), (Value.str (τ "/claim/cut.py") 388)])) #[])
def o167 (P : Params) : Obj := (Obj.mk (Value.type "frame") none Data.plain (List.toArray [(Option.some (Value.ref 166)), (Option.some (Value.ref 3)), (Option.some (Value.ref 163)), none, (Option.some (Value.str (τ "lastfaces.errors") 187)), none, (Option.some (Value.ref 0))]))
def o168 (P : Params) : Obj := (Obj.mk (Value.type "tuple") none (Data.seq #[] 0) #[])
def o169 (P : Params) : Obj := (Obj.mk .none none (Data.fields #[]) #[])
def o170 (P : Params) : Obj := (Obj.mk (Value.type "tuple") none (Data.seq (List.toArray [(Value.str (τ "self") 397), (Value.str (τ "index") 398)]) 0) #[])
def g15 (P : Params) : List Obj := [o161 P, o162 P, o163 P, o164 P, o165 P, o166 P, o167 P, o168 P, o169 P, o170 P]
def o171 (P : Params) : Obj := (Obj.mk (Value.type "tuple") none (Data.seq #[] 0) #[])
def o172 (P : Params) : Obj := (Obj.mk .none none (Data.func (FuncData.mk (τ "__init__") (τ "BadDoors.__init__") (Arguments.mk [] [(Arg.mk (τ "self") none ⟨34,17,34,21⟩), (Arg.mk (τ "index") none ⟨34,23,34,28⟩)] none [] [] none []) (FuncBody.stmts [(Stmt.Assign [(Expr.Attribute (Expr.Name (τ "self") ⟨35,8,35,12⟩) (τ "index") ⟨35,8,35,18⟩)] (Expr.Name (τ "index") ⟨35,21,35,26⟩) ⟨35,8,35,26⟩)]) (Scope.mk ScopeKind.function [((τ "self"), NameKind.local), ((τ "index"), NameKind.local)] Bool.false Bool.false []) 0 [] .none .none .none .none none .none .none 0)) #[])
def o173 (P : Params) : Obj := (Obj.mk (Value.type "code") none (Data.fields (List.toArray [(Value.str (τ "__init__") 394), (Value.str (τ "BadDoors.__init__") 395), (Value.str (τ "/claim/cut.py") 396), (ι 34), (ι 2), (ι 0), (ι 0), (ι 3), (Value.ref 168), (Value.bool Bool.true), (ι 181), (Value.ref 169), .none, (Value.ref 170), (Value.ref 171), (Value.ref 172), (ι 399), (ι 34), (Value.str (τ "/claim/cut.py") 400)])) #[])
def o174 (P : Params) : Obj := (Obj.mk (Value.type "function") none (Data.func (FuncData.mk (τ "__init__") (τ "BadDoors.__init__") (Arguments.mk [] [(Arg.mk (τ "self") none ⟨34,17,34,21⟩), (Arg.mk (τ "index") none ⟨34,23,34,28⟩)] none [] [] none []) (FuncBody.stmts [(Stmt.Assign [(Expr.Attribute (Expr.Name (τ "self") ⟨35,8,35,12⟩) (τ "index") ⟨35,8,35,18⟩)] (Expr.Name (τ "index") ⟨35,21,35,26⟩) ⟨35,8,35,26⟩)]) (Scope.mk ScopeKind.function [((τ "self"), NameKind.local), ((τ "index"), NameKind.local)] Bool.false Bool.false []) 3 [] .none .none .none (Value.str (τ "lastfaces.errors") 187) none (Value.ref 173) .none 0)) #[])
def o175 (P : Params) : Obj := (Obj.mk (Value.type "tuple") none (Data.seq (List.toArray [(Value.str (τ "index") 402)]) 0) #[])
def o176 (P : Params) : Obj := (Obj.mk (Value.type "dict") none (Data.dict (List.toArray [(DictEntry.mk (η P (τ "__module__")) (Value.str (τ "__module__") 389) (Value.str (τ "lastfaces.errors") 187)), (DictEntry.mk (η P (τ "__firstlineno__")) (Value.str (τ "__firstlineno__") 393) (Value.int 32 392)), (DictEntry.mk (η P (τ "__init__")) (Value.str (τ "__init__") 401) (Value.ref 174)), (DictEntry.mk (η P (τ "__static_attributes__")) (Value.str (τ "__static_attributes__") 403) (Value.ref 175)), (DictEntry.mk (η P (τ "__doc__")) (Value.str (τ "__doc__") 404) .none)]) 2) #[])
def o177 (P : Params) : Obj := (Obj.mk (Value.type "type") none (Data.cls (ClassData.mk (τ "BadDoors") [(Value.ref 24)] [(Value.ref 177), (Value.ref 24), (Value.type "ValueError"), (Value.type "Exception"), (Value.type "BaseException"), (Value.type "object")] 176 (τ "BadDoors") Bool.true [] [] Bool.false none Bool.false)) (List.toArray [(Option.some (Value.ref 161)), none, (Option.some (Value.str (τ "BadDoors") 382)), (Option.some (Value.str (τ "BadDoors") 390)), (Option.some (Value.builtin "ValueError.__new__")), (Option.some (Value.bool Bool.true))]))
def o178 (P : Params) : Obj := (Obj.mk (Value.type "super") none (Data.fields (List.toArray [(Value.ref 177), (Value.ref 177), (Value.ref 177)])) #[])
def o179 (P : Params) : Obj := (Obj.mk (Value.type "builtin_function_or_method") none (Data.fields (List.toArray [(Value.builtin "object.__init_subclass__"), (Value.ref 177)])) #[])
def o180 (P : Params) : Obj := (Obj.mk (Value.type "tuple") none (Data.seq (List.toArray [(Value.ref 24)]) 0) #[])
def g16 (P : Params) : List Obj := [o171 P, o172 P, o173 P, o174 P, o175 P, o176 P, o177 P, o178 P, o179 P, o180 P]
def o181 (P : Params) : Obj := (Obj.mk (Value.type "builtin_function_or_method") none (Data.fields (List.toArray [(Value.builtin "type.__prepare__"), (Value.type "type")])) #[])
def o182 (P : Params) : Obj := (Obj.mk (Value.type "dict") none (Data.dict (List.toArray [(DictEntry.mk (η P (τ "__module__")) (Value.str (τ "__module__") 414) (Value.str (τ "lastfaces.errors") 187)), (DictEntry.mk (η P (τ "__qualname__")) (Value.str (τ "__qualname__") 416) (Value.str (τ "BadDues") 415)), (DictEntry.mk (η P (τ "__firstlineno__")) (Value.str (τ "__firstlineno__") 418) (Value.int 36 417)), (DictEntry.mk (η P (τ "__init__")) (Value.str (τ "__init__") 426) (Value.ref 193)), (DictEntry.mk (η P (τ "__static_attributes__")) (Value.str (τ "__static_attributes__") 428) (Value.ref 194))]) 5) #[])
def o183 (P : Params) : Obj := (Obj.mk (Value.type "tuple") none (Data.seq #[] 0) #[])
def o184 (P : Params) : Obj := (Obj.mk .none none (Data.fields (List.toArray [(ι 38), (ι 4), (Value.ref 192)])) #[])
def o185 (P : Params) : Obj := (Obj.mk (Value.type "code") none (Data.fields (List.toArray [(Value.str (τ "BadDues") 409), (Value.str (τ "BadDues") 410), (Value.str (τ "/claim/cut.py") 411), (ι 36), (ι 0), (ι 0), (ι 0), (ι 0), (Value.ref 183), (Value.bool Bool.false), (ι 181), (Value.ref 184), .none, .none, .none, .none, (ι 412), (ι 36), (Value.str (τ "/claim/cut.py") 413)])) #[])
def o186 (P : Params) : Obj := (Obj.mk (Value.type "frame") none Data.plain (List.toArray [(Option.some (Value.ref 185)), (Option.some (Value.ref 3)), (Option.some (Value.ref 182)), none, (Option.some (Value.str (τ "lastfaces.errors") 187)), none, (Option.some (Value.ref 0))]))
def o187 (P : Params) : Obj := (Obj.mk (Value.type "tuple") none (Data.seq #[] 0) #[])
def o188 (P : Params) : Obj := (Obj.mk .none none (Data.fields #[]) #[])
def o189 (P : Params) : Obj := (Obj.mk (Value.type "tuple") none (Data.seq (List.toArray [(Value.str (τ "self") 422), (Value.str (τ "thing") 423)]) 0) #[])
def o190 (P : Params) : Obj := (Obj.mk (Value.type "tuple") none (Data.seq #[] 0) #[])
def g17 (P : Params) : List Obj := [o181 P, o182 P, o183 P, o184 P, o185 P, o186 P, o187 P, o188 P, o189 P, o190 P]
def o191 (P : Params) : Obj := (Obj.mk .none none (Data.func (FuncData.mk (τ "__init__") (τ "BadDues.__init__") (Arguments.mk [] [(Arg.mk (τ "self") none ⟨38,17,38,21⟩), (Arg.mk (τ "thing") none ⟨38,23,38,28⟩)] none [] [] none []) (FuncBody.stmts [(Stmt.Assign [(Expr.Attribute (Expr.Name (τ "self") ⟨39,8,39,12⟩) (τ "thing") ⟨39,8,39,18⟩)] (Expr.Name (τ "thing") ⟨39,21,39,26⟩) ⟨39,8,39,26⟩)]) (Scope.mk ScopeKind.function [((τ "self"), NameKind.local), ((τ "thing"), NameKind.local)] Bool.false Bool.false []) 0 [] .none .none .none .none none .none .none 0)) #[])
def o192 (P : Params) : Obj := (Obj.mk (Value.type "code") none (Data.fields (List.toArray [(Value.str (τ "__init__") 419), (Value.str (τ "BadDues.__init__") 420), (Value.str (τ "/claim/cut.py") 421), (ι 38), (ι 2), (ι 0), (ι 0), (ι 3), (Value.ref 187), (Value.bool Bool.true), (ι 181), (Value.ref 188), .none, (Value.ref 189), (Value.ref 190), (Value.ref 191), (ι 424), (ι 38), (Value.str (τ "/claim/cut.py") 425)])) #[])
def o193 (P : Params) : Obj := (Obj.mk (Value.type "function") none (Data.func (FuncData.mk (τ "__init__") (τ "BadDues.__init__") (Arguments.mk [] [(Arg.mk (τ "self") none ⟨38,17,38,21⟩), (Arg.mk (τ "thing") none ⟨38,23,38,28⟩)] none [] [] none []) (FuncBody.stmts [(Stmt.Assign [(Expr.Attribute (Expr.Name (τ "self") ⟨39,8,39,12⟩) (τ "thing") ⟨39,8,39,18⟩)] (Expr.Name (τ "thing") ⟨39,21,39,26⟩) ⟨39,8,39,26⟩)]) (Scope.mk ScopeKind.function [((τ "self"), NameKind.local), ((τ "thing"), NameKind.local)] Bool.false Bool.false []) 3 [] .none .none .none (Value.str (τ "lastfaces.errors") 187) none (Value.ref 192) .none 0)) #[])
def o194 (P : Params) : Obj := (Obj.mk (Value.type "tuple") none (Data.seq (List.toArray [(Value.str (τ "thing") 427)]) 0) #[])
def o195 (P : Params) : Obj := (Obj.mk (Value.type "dict") none (Data.dict (List.toArray [(DictEntry.mk (η P (τ "__module__")) (Value.str (τ "__module__") 414) (Value.str (τ "lastfaces.errors") 187)), (DictEntry.mk (η P (τ "__firstlineno__")) (Value.str (τ "__firstlineno__") 418) (Value.int 36 417)), (DictEntry.mk (η P (τ "__init__")) (Value.str (τ "__init__") 426) (Value.ref 193)), (DictEntry.mk (η P (τ "__static_attributes__")) (Value.str (τ "__static_attributes__") 428) (Value.ref 194)), (DictEntry.mk (η P (τ "__doc__")) (Value.str (τ "__doc__") 429) .none)]) 2) #[])
def o196 (P : Params) : Obj := (Obj.mk (Value.type "type") none (Data.cls (ClassData.mk (τ "BadDues") [(Value.ref 24)] [(Value.ref 196), (Value.ref 24), (Value.type "ValueError"), (Value.type "Exception"), (Value.type "BaseException"), (Value.type "object")] 195 (τ "BadDues") Bool.true [] [] Bool.false none Bool.false)) (List.toArray [(Option.some (Value.ref 180)), none, (Option.some (Value.str (τ "BadDues") 407)), (Option.some (Value.str (τ "BadDues") 415)), (Option.some (Value.builtin "ValueError.__new__")), (Option.some (Value.bool Bool.true))]))
def o197 (P : Params) : Obj := (Obj.mk (Value.type "super") none (Data.fields (List.toArray [(Value.ref 196), (Value.ref 196), (Value.ref 196)])) #[])
def o198 (P : Params) : Obj := (Obj.mk (Value.type "builtin_function_or_method") none (Data.fields (List.toArray [(Value.builtin "object.__init_subclass__"), (Value.ref 196)])) #[])
def o199 (P : Params) : Obj := (Obj.mk (Value.type "tuple") none (Data.seq (List.toArray [(Value.ref 24)]) 0) #[])
def o200 (P : Params) : Obj := (Obj.mk (Value.type "builtin_function_or_method") none (Data.fields (List.toArray [(Value.builtin "type.__prepare__"), (Value.type "type")])) #[])
def g18 (P : Params) : List Obj := [o191 P, o192 P, o193 P, o194 P, o195 P, o196 P, o197 P, o198 P, o199 P, o200 P]
def o201 (P : Params) : Obj := (Obj.mk (Value.type "dict") none (Data.dict (List.toArray [(DictEntry.mk (η P (τ "__module__")) (Value.str (τ "__module__") 439) (Value.str (τ "lastfaces.errors") 187)), (DictEntry.mk (η P (τ "__qualname__")) (Value.str (τ "__qualname__") 441) (Value.str (τ "BadFloors") 440)), (DictEntry.mk (η P (τ "__firstlineno__")) (Value.str (τ "__firstlineno__") 443) (Value.int 40 442)), (DictEntry.mk (η P (τ "__init__")) (Value.str (τ "__init__") 451) (Value.ref 212)), (DictEntry.mk (η P (τ "__static_attributes__")) (Value.str (τ "__static_attributes__") 453) (Value.ref 213))]) 5) #[])
def o202 (P : Params) : Obj := (Obj.mk (Value.type "tuple") none (Data.seq #[] 0) #[])
def o203 (P : Params) : Obj := (Obj.mk .none none (Data.fields (List.toArray [(ι 42), (ι 4), (Value.ref 211)])) #[])
def o204 (P : Params) : Obj := (Obj.mk (Value.type "code") none (Data.fields (List.toArray [(Value.str (τ "BadFloors") 434), (Value.str (τ "BadFloors") 435), (Value.str (τ "/claim/cut.py") 436), (ι 40), (ι 0), (ι 0), (ι 0), (ι 0), (Value.ref 202), (Value.bool Bool.false), (ι 181), (Value.ref 203), .none, .none, .none, .none, (ι 437), (ι 40), (Value.str (τ "/claim/cut.py") 438)])) #[])
def o205 (P : Params) : Obj := (Obj.mk (Value.type "frame") none Data.plain (List.toArray [(Option.some (Value.ref 204)), (Option.some (Value.ref 3)), (Option.some (Value.ref 201)), none, (Option.some (Value.str (τ "lastfaces.errors") 187)), none, (Option.some (Value.ref 0))]))
def o206 (P : Params) : Obj := (Obj.mk (Value.type "tuple") none (Data.seq #[] 0) #[])
def o207 (P : Params) : Obj := (Obj.mk .none none (Data.fields #[]) #[])
def o208 (P : Params) : Obj := (Obj.mk (Value.type "tuple") none (Data.seq (List.toArray [(Value.str (τ "self") 447), (Value.str (τ "index") 448)]) 0) #[])
def o209 (P : Params) : Obj := (Obj.mk (Value.type "tuple") none (Data.seq #[] 0) #[])
def o210 (P : Params) : Obj := (Obj.mk .none none (Data.func (FuncData.mk (τ "__init__") (τ "BadFloors.__init__") (Arguments.mk [] [(Arg.mk (τ "self") none ⟨42,17,42,21⟩), (Arg.mk (τ "index") none ⟨42,23,42,28⟩)] none [] [] none []) (FuncBody.stmts [(Stmt.Assign [(Expr.Attribute (Expr.Name (τ "self") ⟨43,8,43,12⟩) (τ "index") ⟨43,8,43,18⟩)] (Expr.Name (τ "index") ⟨43,21,43,26⟩) ⟨43,8,43,26⟩)]) (Scope.mk ScopeKind.function [((τ "self"), NameKind.local), ((τ "index"), NameKind.local)] Bool.false Bool.false []) 0 [] .none .none .none .none none .none .none 0)) #[])
def g19 (P : Params) : List Obj := [o201 P, o202 P, o203 P, o204 P, o205 P, o206 P, o207 P, o208 P, o209 P, o210 P]
def o211 (P : Params) : Obj := (Obj.mk (Value.type "code") none (Data.fields (List.toArray [(Value.str (τ "__init__") 444), (Value.str (τ "BadFloors.__init__") 445), (Value.str (τ "/claim/cut.py") 446), (ι 42), (ι 2), (ι 0), (ι 0), (ι 3), (Value.ref 206), (Value.bool Bool.true), (ι 181), (Value.ref 207), .none, (Value.ref 208), (Value.ref 209), (Value.ref 210), (ι 449), (ι 42), (Value.str (τ "/claim/cut.py") 450)])) #[])
def o212 (P : Params) : Obj := (Obj.mk (Value.type "function") none (Data.func (FuncData.mk (τ "__init__") (τ "BadFloors.__init__") (Arguments.mk [] [(Arg.mk (τ "self") none ⟨42,17,42,21⟩), (Arg.mk (τ "index") none ⟨42,23,42,28⟩)] none [] [] none []) (FuncBody.stmts [(Stmt.Assign [(Expr.Attribute (Expr.Name (τ "self") ⟨43,8,43,12⟩) (τ "index") ⟨43,8,43,18⟩)] (Expr.Name (τ "index") ⟨43,21,43,26⟩) ⟨43,8,43,26⟩)]) (Scope.mk ScopeKind.function [((τ "self"), NameKind.local), ((τ "index"), NameKind.local)] Bool.false Bool.false []) 3 [] .none .none .none (Value.str (τ "lastfaces.errors") 187) none (Value.ref 211) .none 0)) #[])
def o213 (P : Params) : Obj := (Obj.mk (Value.type "tuple") none (Data.seq (List.toArray [(Value.str (τ "index") 452)]) 0) #[])
def o214 (P : Params) : Obj := (Obj.mk (Value.type "dict") none (Data.dict (List.toArray [(DictEntry.mk (η P (τ "__module__")) (Value.str (τ "__module__") 439) (Value.str (τ "lastfaces.errors") 187)), (DictEntry.mk (η P (τ "__firstlineno__")) (Value.str (τ "__firstlineno__") 443) (Value.int 40 442)), (DictEntry.mk (η P (τ "__init__")) (Value.str (τ "__init__") 451) (Value.ref 212)), (DictEntry.mk (η P (τ "__static_attributes__")) (Value.str (τ "__static_attributes__") 453) (Value.ref 213)), (DictEntry.mk (η P (τ "__doc__")) (Value.str (τ "__doc__") 454) .none)]) 2) #[])
def o215 (P : Params) : Obj := (Obj.mk (Value.type "type") none (Data.cls (ClassData.mk (τ "BadFloors") [(Value.ref 24)] [(Value.ref 215), (Value.ref 24), (Value.type "ValueError"), (Value.type "Exception"), (Value.type "BaseException"), (Value.type "object")] 214 (τ "BadFloors") Bool.true [] [] Bool.false none Bool.false)) (List.toArray [(Option.some (Value.ref 199)), none, (Option.some (Value.str (τ "BadFloors") 432)), (Option.some (Value.str (τ "BadFloors") 440)), (Option.some (Value.builtin "ValueError.__new__")), (Option.some (Value.bool Bool.true))]))
def o216 (P : Params) : Obj := (Obj.mk (Value.type "super") none (Data.fields (List.toArray [(Value.ref 215), (Value.ref 215), (Value.ref 215)])) #[])
def o217 (P : Params) : Obj := (Obj.mk (Value.type "builtin_function_or_method") none (Data.fields (List.toArray [(Value.builtin "object.__init_subclass__"), (Value.ref 215)])) #[])
def o218 (P : Params) : Obj := (Obj.mk (Value.type "tuple") none (Data.seq (List.toArray [(Value.ref 24)]) 0) #[])
def o219 (P : Params) : Obj := (Obj.mk (Value.type "builtin_function_or_method") none (Data.fields (List.toArray [(Value.builtin "type.__prepare__"), (Value.type "type")])) #[])
def o220 (P : Params) : Obj := (Obj.mk (Value.type "dict") none (Data.dict (List.toArray [(DictEntry.mk (η P (τ "__module__")) (Value.str (τ "__module__") 464) (Value.str (τ "lastfaces.errors") 187)), (DictEntry.mk (η P (τ "__qualname__")) (Value.str (τ "__qualname__") 466) (Value.str (τ "BadGates") 465)), (DictEntry.mk (η P (τ "__firstlineno__")) (Value.str (τ "__firstlineno__") 468) (Value.int 44 467)), (DictEntry.mk (η P (τ "__init__")) (Value.str (τ "__init__") 476) (Value.ref 231)), (DictEntry.mk (η P (τ "__static_attributes__")) (Value.str (τ "__static_attributes__") 478) (Value.ref 232))]) 5) #[])
def g20 (P : Params) : List Obj := [o211 P, o212 P, o213 P, o214 P, o215 P, o216 P, o217 P, o218 P, o219 P, o220 P]
def o221 (P : Params) : Obj := (Obj.mk (Value.type "tuple") none (Data.seq #[] 0) #[])
def o222 (P : Params) : Obj := (Obj.mk .none none (Data.fields (List.toArray [(ι 46), (ι 4), (Value.ref 230)])) #[])
def o223 (P : Params) : Obj := (Obj.mk (Value.type "code") none (Data.fields (List.toArray [(Value.str (τ "BadGates") 459), (Value.str (τ "BadGates") 460), (Value.str (τ "/claim/cut.py") 461), (ι 44), (ι 0), (ι 0), (ι 0), (ι 0), (Value.ref 221), (Value.bool Bool.false), (ι 181), (Value.ref 222), .none, .none, .none, .none, (ι 462), (ι 44), (Value.str (τ "/claim/cut.py") 463)])) #[])
def o224 (P : Params) : Obj := (Obj.mk (Value.type "frame") none Data.plain (List.toArray [(Option.some (Value.ref 223)), (Option.some (Value.ref 3)), (Option.some (Value.ref 220)), none, (Option.some (Value.str (τ "lastfaces.errors") 187)), none, (Option.some (Value.ref 0))]))
def o225 (P : Params) : Obj := (Obj.mk (Value.type "tuple") none (Data.seq #[] 0) #[])
def o226 (P : Params) : Obj := (Obj.mk .none none (Data.fields #[]) #[])
def o227 (P : Params) : Obj := (Obj.mk (Value.type "tuple") none (Data.seq (List.toArray [(Value.str (τ "self") 472), (Value.str (τ "index") 473)]) 0) #[])
def o228 (P : Params) : Obj := (Obj.mk (Value.type "tuple") none (Data.seq #[] 0) #[])
def o229 (P : Params) : Obj := (Obj.mk .none none (Data.func (FuncData.mk (τ "__init__") (τ "BadGates.__init__") (Arguments.mk [] [(Arg.mk (τ "self") none ⟨46,17,46,21⟩), (Arg.mk (τ "index") none ⟨46,23,46,28⟩)] none [] [] none []) (FuncBody.stmts [(Stmt.Assign [(Expr.Attribute (Expr.Name (τ "self") ⟨47,8,47,12⟩) (τ "index") ⟨47,8,47,18⟩)] (Expr.Name (τ "index") ⟨47,21,47,26⟩) ⟨47,8,47,26⟩)]) (Scope.mk ScopeKind.function [((τ "self"), NameKind.local), ((τ "index"), NameKind.local)] Bool.false Bool.false []) 0 [] .none .none .none .none none .none .none 0)) #[])
def o230 (P : Params) : Obj := (Obj.mk (Value.type "code") none (Data.fields (List.toArray [(Value.str (τ "__init__") 469), (Value.str (τ "BadGates.__init__") 470), (Value.str (τ "/claim/cut.py") 471), (ι 46), (ι 2), (ι 0), (ι 0), (ι 3), (Value.ref 225), (Value.bool Bool.true), (ι 181), (Value.ref 226), .none, (Value.ref 227), (Value.ref 228), (Value.ref 229), (ι 474), (ι 46), (Value.str (τ "/claim/cut.py") 475)])) #[])
def g21 (P : Params) : List Obj := [o221 P, o222 P, o223 P, o224 P, o225 P, o226 P, o227 P, o228 P, o229 P, o230 P]
def o231 (P : Params) : Obj := (Obj.mk (Value.type "function") none (Data.func (FuncData.mk (τ "__init__") (τ "BadGates.__init__") (Arguments.mk [] [(Arg.mk (τ "self") none ⟨46,17,46,21⟩), (Arg.mk (τ "index") none ⟨46,23,46,28⟩)] none [] [] none []) (FuncBody.stmts [(Stmt.Assign [(Expr.Attribute (Expr.Name (τ "self") ⟨47,8,47,12⟩) (τ "index") ⟨47,8,47,18⟩)] (Expr.Name (τ "index") ⟨47,21,47,26⟩) ⟨47,8,47,26⟩)]) (Scope.mk ScopeKind.function [((τ "self"), NameKind.local), ((τ "index"), NameKind.local)] Bool.false Bool.false []) 3 [] .none .none .none (Value.str (τ "lastfaces.errors") 187) none (Value.ref 230) .none 0)) #[])
def o232 (P : Params) : Obj := (Obj.mk (Value.type "tuple") none (Data.seq (List.toArray [(Value.str (τ "index") 477)]) 0) #[])
def o233 (P : Params) : Obj := (Obj.mk (Value.type "dict") none (Data.dict (List.toArray [(DictEntry.mk (η P (τ "__module__")) (Value.str (τ "__module__") 464) (Value.str (τ "lastfaces.errors") 187)), (DictEntry.mk (η P (τ "__firstlineno__")) (Value.str (τ "__firstlineno__") 468) (Value.int 44 467)), (DictEntry.mk (η P (τ "__init__")) (Value.str (τ "__init__") 476) (Value.ref 231)), (DictEntry.mk (η P (τ "__static_attributes__")) (Value.str (τ "__static_attributes__") 478) (Value.ref 232)), (DictEntry.mk (η P (τ "__doc__")) (Value.str (τ "__doc__") 479) .none)]) 2) #[])
def o234 (P : Params) : Obj := (Obj.mk (Value.type "type") none (Data.cls (ClassData.mk (τ "BadGates") [(Value.ref 24)] [(Value.ref 234), (Value.ref 24), (Value.type "ValueError"), (Value.type "Exception"), (Value.type "BaseException"), (Value.type "object")] 233 (τ "BadGates") Bool.true [] [] Bool.false none Bool.false)) (List.toArray [(Option.some (Value.ref 218)), none, (Option.some (Value.str (τ "BadGates") 457)), (Option.some (Value.str (τ "BadGates") 465)), (Option.some (Value.builtin "ValueError.__new__")), (Option.some (Value.bool Bool.true))]))
def o235 (P : Params) : Obj := (Obj.mk (Value.type "super") none (Data.fields (List.toArray [(Value.ref 234), (Value.ref 234), (Value.ref 234)])) #[])
def o236 (P : Params) : Obj := (Obj.mk (Value.type "builtin_function_or_method") none (Data.fields (List.toArray [(Value.builtin "object.__init_subclass__"), (Value.ref 234)])) #[])
def o237 (P : Params) : Obj := (Obj.mk (Value.type "tuple") none (Data.seq (List.toArray [(Value.ref 24)]) 0) #[])
def o238 (P : Params) : Obj := (Obj.mk (Value.type "builtin_function_or_method") none (Data.fields (List.toArray [(Value.builtin "type.__prepare__"), (Value.type "type")])) #[])
def o239 (P : Params) : Obj := (Obj.mk (Value.type "dict") none (Data.dict (List.toArray [(DictEntry.mk (η P (τ "__module__")) (Value.str (τ "__module__") 489) (Value.str (τ "lastfaces.errors") 187)), (DictEntry.mk (η P (τ "__qualname__")) (Value.str (τ "__qualname__") 491) (Value.str (τ "BadGiven") 490)), (DictEntry.mk (η P (τ "__firstlineno__")) (Value.str (τ "__firstlineno__") 493) (Value.int 48 492)), (DictEntry.mk (η P (τ "__init__")) (Value.str (τ "__init__") 501) (Value.ref 250)), (DictEntry.mk (η P (τ "__static_attributes__")) (Value.str (τ "__static_attributes__") 503) (Value.ref 251))]) 5) #[])
def o240 (P : Params) : Obj := (Obj.mk (Value.type "tuple") none (Data.seq #[] 0) #[])
def g22 (P : Params) : List Obj := [o231 P, o232 P, o233 P, o234 P, o235 P, o236 P, o237 P, o238 P, o239 P, o240 P]
def o241 (P : Params) : Obj := (Obj.mk .none none (Data.fields (List.toArray [(ι 50), (ι 4), (Value.ref 249)])) #[])
def o242 (P : Params) : Obj := (Obj.mk (Value.type "code") none (Data.fields (List.toArray [(Value.str (τ "BadGiven") 484), (Value.str (τ "BadGiven") 485), (Value.str (τ "/claim/cut.py") 486), (ι 48), (ι 0), (ι 0), (ι 0), (ι 0), (Value.ref 240), (Value.bool Bool.false), (ι 181), (Value.ref 241), .none, .none, .none, .none, (ι 487), (ι 48), (Value.str (τ "/claim/cut.py") 488)])) #[])
def o243 (P : Params) : Obj := (Obj.mk (Value.type "frame") none Data.plain (List.toArray [(Option.some (Value.ref 242)), (Option.some (Value.ref 3)), (Option.some (Value.ref 239)), none, (Option.some (Value.str (τ "lastfaces.errors") 187)), none, (Option.some (Value.ref 0))]))
def o244 (P : Params) : Obj := (Obj.mk (Value.type "tuple") none (Data.seq #[] 0) #[])
def o245 (P : Params) : Obj := (Obj.mk .none none (Data.fields #[]) #[])
def o246 (P : Params) : Obj := (Obj.mk (Value.type "tuple") none (Data.seq (List.toArray [(Value.str (τ "self") 497), (Value.str (τ "thing") 498)]) 0) #[])
def o247 (P : Params) : Obj := (Obj.mk (Value.type "tuple") none (Data.seq #[] 0) #[])
def o248 (P : Params) : Obj := (Obj.mk .none none (Data.func (FuncData.mk (τ "__init__") (τ "BadGiven.__init__") (Arguments.mk [] [(Arg.mk (τ "self") none ⟨50,17,50,21⟩), (Arg.mk (τ "thing") none ⟨50,23,50,28⟩)] none [] [] none []) (FuncBody.stmts [(Stmt.Assign [(Expr.Attribute (Expr.Name (τ "self") ⟨51,8,51,12⟩) (τ "thing") ⟨51,8,51,18⟩)] (Expr.Name (τ "thing") ⟨51,21,51,26⟩) ⟨51,8,51,26⟩)]) (Scope.mk ScopeKind.function [((τ "self"), NameKind.local), ((τ "thing"), NameKind.local)] Bool.false Bool.false []) 0 [] .none .none .none .none none .none .none 0)) #[])
def o249 (P : Params) : Obj := (Obj.mk (Value.type "code") none (Data.fields (List.toArray [(Value.str (τ "__init__") 494), (Value.str (τ "BadGiven.__init__") 495), (Value.str (τ "/claim/cut.py") 496), (ι 50), (ι 2), (ι 0), (ι 0), (ι 3), (Value.ref 244), (Value.bool Bool.true), (ι 181), (Value.ref 245), .none, (Value.ref 246), (Value.ref 247), (Value.ref 248), (ι 499), (ι 50), (Value.str (τ "/claim/cut.py") 500)])) #[])
def o250 (P : Params) : Obj := (Obj.mk (Value.type "function") none (Data.func (FuncData.mk (τ "__init__") (τ "BadGiven.__init__") (Arguments.mk [] [(Arg.mk (τ "self") none ⟨50,17,50,21⟩), (Arg.mk (τ "thing") none ⟨50,23,50,28⟩)] none [] [] none []) (FuncBody.stmts [(Stmt.Assign [(Expr.Attribute (Expr.Name (τ "self") ⟨51,8,51,12⟩) (τ "thing") ⟨51,8,51,18⟩)] (Expr.Name (τ "thing") ⟨51,21,51,26⟩) ⟨51,8,51,26⟩)]) (Scope.mk ScopeKind.function [((τ "self"), NameKind.local), ((τ "thing"), NameKind.local)] Bool.false Bool.false []) 3 [] .none .none .none (Value.str (τ "lastfaces.errors") 187) none (Value.ref 249) .none 0)) #[])
def g23 (P : Params) : List Obj := [o241 P, o242 P, o243 P, o244 P, o245 P, o246 P, o247 P, o248 P, o249 P, o250 P]
def o251 (P : Params) : Obj := (Obj.mk (Value.type "tuple") none (Data.seq (List.toArray [(Value.str (τ "thing") 502)]) 0) #[])
def o252 (P : Params) : Obj := (Obj.mk (Value.type "dict") none (Data.dict (List.toArray [(DictEntry.mk (η P (τ "__module__")) (Value.str (τ "__module__") 489) (Value.str (τ "lastfaces.errors") 187)), (DictEntry.mk (η P (τ "__firstlineno__")) (Value.str (τ "__firstlineno__") 493) (Value.int 48 492)), (DictEntry.mk (η P (τ "__init__")) (Value.str (τ "__init__") 501) (Value.ref 250)), (DictEntry.mk (η P (τ "__static_attributes__")) (Value.str (τ "__static_attributes__") 503) (Value.ref 251)), (DictEntry.mk (η P (τ "__doc__")) (Value.str (τ "__doc__") 504) .none)]) 2) #[])
def o253 (P : Params) : Obj := (Obj.mk (Value.type "type") none (Data.cls (ClassData.mk (τ "BadGiven") [(Value.ref 24)] [(Value.ref 253), (Value.ref 24), (Value.type "ValueError"), (Value.type "Exception"), (Value.type "BaseException"), (Value.type "object")] 252 (τ "BadGiven") Bool.true [] [] Bool.false none Bool.false)) (List.toArray [(Option.some (Value.ref 237)), none, (Option.some (Value.str (τ "BadGiven") 482)), (Option.some (Value.str (τ "BadGiven") 490)), (Option.some (Value.builtin "ValueError.__new__")), (Option.some (Value.bool Bool.true))]))
def o254 (P : Params) : Obj := (Obj.mk (Value.type "super") none (Data.fields (List.toArray [(Value.ref 253), (Value.ref 253), (Value.ref 253)])) #[])
def o255 (P : Params) : Obj := (Obj.mk (Value.type "builtin_function_or_method") none (Data.fields (List.toArray [(Value.builtin "object.__init_subclass__"), (Value.ref 253)])) #[])
def o256 (P : Params) : Obj := (Obj.mk (Value.type "tuple") none (Data.seq (List.toArray [(Value.ref 24)]) 0) #[])
def o257 (P : Params) : Obj := (Obj.mk (Value.type "builtin_function_or_method") none (Data.fields (List.toArray [(Value.builtin "type.__prepare__"), (Value.type "type")])) #[])
def o258 (P : Params) : Obj := (Obj.mk (Value.type "dict") none (Data.dict (List.toArray [(DictEntry.mk (η P (τ "__module__")) (Value.str (τ "__module__") 514) (Value.str (τ "lastfaces.errors") 187)), (DictEntry.mk (η P (τ "__qualname__")) (Value.str (τ "__qualname__") 516) (Value.str (τ "BadGuesses") 515)), (DictEntry.mk (η P (τ "__firstlineno__")) (Value.str (τ "__firstlineno__") 518) (Value.int 52 517)), (DictEntry.mk (η P (τ "__init__")) (Value.str (τ "__init__") 526) (Value.ref 269)), (DictEntry.mk (η P (τ "__static_attributes__")) (Value.str (τ "__static_attributes__") 528) (Value.ref 270))]) 5) #[])
def o259 (P : Params) : Obj := (Obj.mk (Value.type "tuple") none (Data.seq #[] 0) #[])
def o260 (P : Params) : Obj := (Obj.mk .none none (Data.fields (List.toArray [(ι 54), (ι 4), (Value.ref 268)])) #[])
def g24 (P : Params) : List Obj := [o251 P, o252 P, o253 P, o254 P, o255 P, o256 P, o257 P, o258 P, o259 P, o260 P]
def o261 (P : Params) : Obj := (Obj.mk (Value.type "code") none (Data.fields (List.toArray [(Value.str (τ "BadGuesses") 509), (Value.str (τ "BadGuesses") 510), (Value.str (τ "/claim/cut.py") 511), (ι 52), (ι 0), (ι 0), (ι 0), (ι 0), (Value.ref 259), (Value.bool Bool.false), (ι 181), (Value.ref 260), .none, .none, .none, .none, (ι 512), (ι 52), (Value.str (τ "/claim/cut.py") 513)])) #[])
def o262 (P : Params) : Obj := (Obj.mk (Value.type "frame") none Data.plain (List.toArray [(Option.some (Value.ref 261)), (Option.some (Value.ref 3)), (Option.some (Value.ref 258)), none, (Option.some (Value.str (τ "lastfaces.errors") 187)), none, (Option.some (Value.ref 0))]))
def o263 (P : Params) : Obj := (Obj.mk (Value.type "tuple") none (Data.seq #[] 0) #[])
def o264 (P : Params) : Obj := (Obj.mk .none none (Data.fields #[]) #[])
def o265 (P : Params) : Obj := (Obj.mk (Value.type "tuple") none (Data.seq (List.toArray [(Value.str (τ "self") 522), (Value.str (τ "thing") 523)]) 0) #[])
def o266 (P : Params) : Obj := (Obj.mk (Value.type "tuple") none (Data.seq #[] 0) #[])
def o267 (P : Params) : Obj := (Obj.mk .none none (Data.func (FuncData.mk (τ "__init__") (τ "BadGuesses.__init__") (Arguments.mk [] [(Arg.mk (τ "self") none ⟨54,17,54,21⟩), (Arg.mk (τ "thing") none ⟨54,23,54,28⟩)] none [] [] none []) (FuncBody.stmts [(Stmt.Assign [(Expr.Attribute (Expr.Name (τ "self") ⟨55,8,55,12⟩) (τ "thing") ⟨55,8,55,18⟩)] (Expr.Name (τ "thing") ⟨55,21,55,26⟩) ⟨55,8,55,26⟩)]) (Scope.mk ScopeKind.function [((τ "self"), NameKind.local), ((τ "thing"), NameKind.local)] Bool.false Bool.false []) 0 [] .none .none .none .none none .none .none 0)) #[])
def o268 (P : Params) : Obj := (Obj.mk (Value.type "code") none (Data.fields (List.toArray [(Value.str (τ "__init__") 519), (Value.str (τ "BadGuesses.__init__") 520), (Value.str (τ "/claim/cut.py") 521), (ι 54), (ι 2), (ι 0), (ι 0), (ι 3), (Value.ref 263), (Value.bool Bool.true), (ι 181), (Value.ref 264), .none, (Value.ref 265), (Value.ref 266), (Value.ref 267), (ι 524), (ι 54), (Value.str (τ "/claim/cut.py") 525)])) #[])
def o269 (P : Params) : Obj := (Obj.mk (Value.type "function") none (Data.func (FuncData.mk (τ "__init__") (τ "BadGuesses.__init__") (Arguments.mk [] [(Arg.mk (τ "self") none ⟨54,17,54,21⟩), (Arg.mk (τ "thing") none ⟨54,23,54,28⟩)] none [] [] none []) (FuncBody.stmts [(Stmt.Assign [(Expr.Attribute (Expr.Name (τ "self") ⟨55,8,55,12⟩) (τ "thing") ⟨55,8,55,18⟩)] (Expr.Name (τ "thing") ⟨55,21,55,26⟩) ⟨55,8,55,26⟩)]) (Scope.mk ScopeKind.function [((τ "self"), NameKind.local), ((τ "thing"), NameKind.local)] Bool.false Bool.false []) 3 [] .none .none .none (Value.str (τ "lastfaces.errors") 187) none (Value.ref 268) .none 0)) #[])
def o270 (P : Params) : Obj := (Obj.mk (Value.type "tuple") none (Data.seq (List.toArray [(Value.str (τ "thing") 527)]) 0) #[])
def g25 (P : Params) : List Obj := [o261 P, o262 P, o263 P, o264 P, o265 P, o266 P, o267 P, o268 P, o269 P, o270 P]
def o271 (P : Params) : Obj := (Obj.mk (Value.type "dict") none (Data.dict (List.toArray [(DictEntry.mk (η P (τ "__module__")) (Value.str (τ "__module__") 514) (Value.str (τ "lastfaces.errors") 187)), (DictEntry.mk (η P (τ "__firstlineno__")) (Value.str (τ "__firstlineno__") 518) (Value.int 52 517)), (DictEntry.mk (η P (τ "__init__")) (Value.str (τ "__init__") 526) (Value.ref 269)), (DictEntry.mk (η P (τ "__static_attributes__")) (Value.str (τ "__static_attributes__") 528) (Value.ref 270)), (DictEntry.mk (η P (τ "__doc__")) (Value.str (τ "__doc__") 529) .none)]) 2) #[])
def o272 (P : Params) : Obj := (Obj.mk (Value.type "type") none (Data.cls (ClassData.mk (τ "BadGuesses") [(Value.ref 24)] [(Value.ref 272), (Value.ref 24), (Value.type "ValueError"), (Value.type "Exception"), (Value.type "BaseException"), (Value.type "object")] 271 (τ "BadGuesses") Bool.true [] [] Bool.false none Bool.false)) (List.toArray [(Option.some (Value.ref 256)), none, (Option.some (Value.str (τ "BadGuesses") 507)), (Option.some (Value.str (τ "BadGuesses") 515)), (Option.some (Value.builtin "ValueError.__new__")), (Option.some (Value.bool Bool.true))]))
def o273 (P : Params) : Obj := (Obj.mk (Value.type "super") none (Data.fields (List.toArray [(Value.ref 272), (Value.ref 272), (Value.ref 272)])) #[])
def o274 (P : Params) : Obj := (Obj.mk (Value.type "builtin_function_or_method") none (Data.fields (List.toArray [(Value.builtin "object.__init_subclass__"), (Value.ref 272)])) #[])
def o275 (P : Params) : Obj := (Obj.mk (Value.type "tuple") none (Data.seq (List.toArray [(Value.ref 24)]) 0) #[])
def o276 (P : Params) : Obj := (Obj.mk (Value.type "builtin_function_or_method") none (Data.fields (List.toArray [(Value.builtin "type.__prepare__"), (Value.type "type")])) #[])
def o277 (P : Params) : Obj := (Obj.mk (Value.type "dict") none (Data.dict (List.toArray [(DictEntry.mk (η P (τ "__module__")) (Value.str (τ "__module__") 539) (Value.str (τ "lastfaces.errors") 187)), (DictEntry.mk (η P (τ "__qualname__")) (Value.str (τ "__qualname__") 541) (Value.str (τ "BadInn") 540)), (DictEntry.mk (η P (τ "__firstlineno__")) (Value.str (τ "__firstlineno__") 543) (Value.int 56 542)), (DictEntry.mk (η P (τ "__init__")) (Value.str (τ "__init__") 551) (Value.ref 288)), (DictEntry.mk (η P (τ "__static_attributes__")) (Value.str (τ "__static_attributes__") 553) (Value.ref 289))]) 5) #[])
def o278 (P : Params) : Obj := (Obj.mk (Value.type "tuple") none (Data.seq #[] 0) #[])
def o279 (P : Params) : Obj := (Obj.mk .none none (Data.fields (List.toArray [(ι 58), (ι 4), (Value.ref 287)])) #[])
def o280 (P : Params) : Obj := (Obj.mk (Value.type "code") none (Data.fields (List.toArray [(Value.str (τ "BadInn") 534), (Value.str (τ "BadInn") 535), (Value.str (τ "/claim/cut.py") 536), (ι 56), (ι 0), (ι 0), (ι 0), (ι 0), (Value.ref 278), (Value.bool Bool.false), (ι 181), (Value.ref 279), .none, .none, .none, .none, (ι 537), (ι 56), (Value.str (τ "/claim/cut.py") 538)])) #[])
def g26 (P : Params) : List Obj := [o271 P, o272 P, o273 P, o274 P, o275 P, o276 P, o277 P, o278 P, o279 P, o280 P]
def o281 (P : Params) : Obj := (Obj.mk (Value.type "frame") none Data.plain (List.toArray [(Option.some (Value.ref 280)), (Option.some (Value.ref 3)), (Option.some (Value.ref 277)), none, (Option.some (Value.str (τ "lastfaces.errors") 187)), none, (Option.some (Value.ref 0))]))
def o282 (P : Params) : Obj := (Obj.mk (Value.type "tuple") none (Data.seq #[] 0) #[])
def o283 (P : Params) : Obj := (Obj.mk .none none (Data.fields #[]) #[])
def o284 (P : Params) : Obj := (Obj.mk (Value.type "tuple") none (Data.seq (List.toArray [(Value.str (τ "self") 547), (Value.str (τ "thing") 548)]) 0) #[])
def o285 (P : Params) : Obj := (Obj.mk (Value.type "tuple") none (Data.seq #[] 0) #[])
def o286 (P : Params) : Obj := (Obj.mk .none none (Data.func (FuncData.mk (τ "__init__") (τ "BadInn.__init__") (Arguments.mk [] [(Arg.mk (τ "self") none ⟨58,17,58,21⟩), (Arg.mk (τ "thing") none ⟨58,23,58,28⟩)] none [] [] none []) (FuncBody.stmts [(Stmt.Assign [(Expr.Attribute (Expr.Name (τ "self") ⟨59,8,59,12⟩) (τ "thing") ⟨59,8,59,18⟩)] (Expr.Name (τ "thing") ⟨59,21,59,26⟩) ⟨59,8,59,26⟩)]) (Scope.mk ScopeKind.function [((τ "self"), NameKind.local), ((τ "thing"), NameKind.local)] Bool.false Bool.false []) 0 [] .none .none .none .none none .none .none 0)) #[])
def o287 (P : Params) : Obj := (Obj.mk (Value.type "code") none (Data.fields (List.toArray [(Value.str (τ "__init__") 544), (Value.str (τ "BadInn.__init__") 545), (Value.str (τ "/claim/cut.py") 546), (ι 58), (ι 2), (ι 0), (ι 0), (ι 3), (Value.ref 282), (Value.bool Bool.true), (ι 181), (Value.ref 283), .none, (Value.ref 284), (Value.ref 285), (Value.ref 286), (ι 549), (ι 58), (Value.str (τ "/claim/cut.py") 550)])) #[])
def o288 (P : Params) : Obj := (Obj.mk (Value.type "function") none (Data.func (FuncData.mk (τ "__init__") (τ "BadInn.__init__") (Arguments.mk [] [(Arg.mk (τ "self") none ⟨58,17,58,21⟩), (Arg.mk (τ "thing") none ⟨58,23,58,28⟩)] none [] [] none []) (FuncBody.stmts [(Stmt.Assign [(Expr.Attribute (Expr.Name (τ "self") ⟨59,8,59,12⟩) (τ "thing") ⟨59,8,59,18⟩)] (Expr.Name (τ "thing") ⟨59,21,59,26⟩) ⟨59,8,59,26⟩)]) (Scope.mk ScopeKind.function [((τ "self"), NameKind.local), ((τ "thing"), NameKind.local)] Bool.false Bool.false []) 3 [] .none .none .none (Value.str (τ "lastfaces.errors") 187) none (Value.ref 287) .none 0)) #[])
def o289 (P : Params) : Obj := (Obj.mk (Value.type "tuple") none (Data.seq (List.toArray [(Value.str (τ "thing") 552)]) 0) #[])
def o290 (P : Params) : Obj := (Obj.mk (Value.type "dict") none (Data.dict (List.toArray [(DictEntry.mk (η P (τ "__module__")) (Value.str (τ "__module__") 539) (Value.str (τ "lastfaces.errors") 187)), (DictEntry.mk (η P (τ "__firstlineno__")) (Value.str (τ "__firstlineno__") 543) (Value.int 56 542)), (DictEntry.mk (η P (τ "__init__")) (Value.str (τ "__init__") 551) (Value.ref 288)), (DictEntry.mk (η P (τ "__static_attributes__")) (Value.str (τ "__static_attributes__") 553) (Value.ref 289)), (DictEntry.mk (η P (τ "__doc__")) (Value.str (τ "__doc__") 554) .none)]) 2) #[])
def g27 (P : Params) : List Obj := [o281 P, o282 P, o283 P, o284 P, o285 P, o286 P, o287 P, o288 P, o289 P, o290 P]
def o291 (P : Params) : Obj := (Obj.mk (Value.type "type") none (Data.cls (ClassData.mk (τ "BadInn") [(Value.ref 24)] [(Value.ref 291), (Value.ref 24), (Value.type "ValueError"), (Value.type "Exception"), (Value.type "BaseException"), (Value.type "object")] 290 (τ "BadInn") Bool.true [] [] Bool.false none Bool.false)) (List.toArray [(Option.some (Value.ref 275)), none, (Option.some (Value.str (τ "BadInn") 532)), (Option.some (Value.str (τ "BadInn") 540)), (Option.some (Value.builtin "ValueError.__new__")), (Option.some (Value.bool Bool.true))]))
def o292 (P : Params) : Obj := (Obj.mk (Value.type "super") none (Data.fields (List.toArray [(Value.ref 291), (Value.ref 291), (Value.ref 291)])) #[])
def o293 (P : Params) : Obj := (Obj.mk (Value.type "builtin_function_or_method") none (Data.fields (List.toArray [(Value.builtin "object.__init_subclass__"), (Value.ref 291)])) #[])
def o294 (P : Params) : Obj := (Obj.mk (Value.type "tuple") none (Data.seq (List.toArray [(Value.ref 24)]) 0) #[])
def o295 (P : Params) : Obj := (Obj.mk (Value.type "builtin_function_or_method") none (Data.fields (List.toArray [(Value.builtin "type.__prepare__"), (Value.type "type")])) #[])
def o296 (P : Params) : Obj := (Obj.mk (Value.type "dict") none (Data.dict (List.toArray [(DictEntry.mk (η P (τ "__module__")) (Value.str (τ "__module__") 564) (Value.str (τ "lastfaces.errors") 187)), (DictEntry.mk (η P (τ "__qualname__")) (Value.str (τ "__qualname__") 566) (Value.str (τ "BadKeeper") 565)), (DictEntry.mk (η P (τ "__firstlineno__")) (Value.str (τ "__firstlineno__") 568) (Value.int 60 567)), (DictEntry.mk (η P (τ "__init__")) (Value.str (τ "__init__") 576) (Value.ref 307)), (DictEntry.mk (η P (τ "__static_attributes__")) (Value.str (τ "__static_attributes__") 578) (Value.ref 308))]) 5) #[])
def o297 (P : Params) : Obj := (Obj.mk (Value.type "tuple") none (Data.seq #[] 0) #[])
def o298 (P : Params) : Obj := (Obj.mk .none none (Data.fields (List.toArray [(ι 62), (ι 4), (Value.ref 306)])) #[])
def o299 (P : Params) : Obj := (Obj.mk (Value.type "code") none (Data.fields (List.toArray [(Value.str (τ "BadKeeper") 559), (Value.str (τ "BadKeeper") 560), (Value.str (τ "/claim/cut.py") 561), (ι 60), (ι 0), (ι 0), (ι 0), (ι 0), (Value.ref 297), (Value.bool Bool.false), (ι 181), (Value.ref 298), .none, .none, .none, .none, (ι 562), (ι 60), (Value.str (τ "/claim/cut.py") 563)])) #[])
def o300 (P : Params) : Obj := (Obj.mk (Value.type "frame") none Data.plain (List.toArray [(Option.some (Value.ref 299)), (Option.some (Value.ref 3)), (Option.some (Value.ref 296)), none, (Option.some (Value.str (τ "lastfaces.errors") 187)), none, (Option.some (Value.ref 0))]))
def g28 (P : Params) : List Obj := [o291 P, o292 P, o293 P, o294 P, o295 P, o296 P, o297 P, o298 P, o299 P, o300 P]
def o301 (P : Params) : Obj := (Obj.mk (Value.type "tuple") none (Data.seq #[] 0) #[])
def o302 (P : Params) : Obj := (Obj.mk .none none (Data.fields #[]) #[])
def o303 (P : Params) : Obj := (Obj.mk (Value.type "tuple") none (Data.seq (List.toArray [(Value.str (τ "self") 572), (Value.str (τ "thing") 573)]) 0) #[])
def o304 (P : Params) : Obj := (Obj.mk (Value.type "tuple") none (Data.seq #[] 0) #[])
def o305 (P : Params) : Obj := (Obj.mk .none none (Data.func (FuncData.mk (τ "__init__") (τ "BadKeeper.__init__") (Arguments.mk [] [(Arg.mk (τ "self") none ⟨62,17,62,21⟩), (Arg.mk (τ "thing") none ⟨62,23,62,28⟩)] none [] [] none []) (FuncBody.stmts [(Stmt.Assign [(Expr.Attribute (Expr.Name (τ "self") ⟨63,8,63,12⟩) (τ "thing") ⟨63,8,63,18⟩)] (Expr.Name (τ "thing") ⟨63,21,63,26⟩) ⟨63,8,63,26⟩)]) (Scope.mk ScopeKind.function [((τ "self"), NameKind.local), ((τ "thing"), NameKind.local)] Bool.false Bool.false []) 0 [] .none .none .none .none none .none .none 0)) #[])
def o306 (P : Params) : Obj := (Obj.mk (Value.type "code") none (Data.fields (List.toArray [(Value.str (τ "__init__") 569), (Value.str (τ "BadKeeper.__init__") 570), (Value.str (τ "/claim/cut.py") 571), (ι 62), (ι 2), (ι 0), (ι 0), (ι 3), (Value.ref 301), (Value.bool Bool.true), (ι 181), (Value.ref 302), .none, (Value.ref 303), (Value.ref 304), (Value.ref 305), (ι 574), (ι 62), (Value.str (τ "/claim/cut.py") 575)])) #[])
def o307 (P : Params) : Obj := (Obj.mk (Value.type "function") none (Data.func (FuncData.mk (τ "__init__") (τ "BadKeeper.__init__") (Arguments.mk [] [(Arg.mk (τ "self") none ⟨62,17,62,21⟩), (Arg.mk (τ "thing") none ⟨62,23,62,28⟩)] none [] [] none []) (FuncBody.stmts [(Stmt.Assign [(Expr.Attribute (Expr.Name (τ "self") ⟨63,8,63,12⟩) (τ "thing") ⟨63,8,63,18⟩)] (Expr.Name (τ "thing") ⟨63,21,63,26⟩) ⟨63,8,63,26⟩)]) (Scope.mk ScopeKind.function [((τ "self"), NameKind.local), ((τ "thing"), NameKind.local)] Bool.false Bool.false []) 3 [] .none .none .none (Value.str (τ "lastfaces.errors") 187) none (Value.ref 306) .none 0)) #[])
def o308 (P : Params) : Obj := (Obj.mk (Value.type "tuple") none (Data.seq (List.toArray [(Value.str (τ "thing") 577)]) 0) #[])
def o309 (P : Params) : Obj := (Obj.mk (Value.type "dict") none (Data.dict (List.toArray [(DictEntry.mk (η P (τ "__module__")) (Value.str (τ "__module__") 564) (Value.str (τ "lastfaces.errors") 187)), (DictEntry.mk (η P (τ "__firstlineno__")) (Value.str (τ "__firstlineno__") 568) (Value.int 60 567)), (DictEntry.mk (η P (τ "__init__")) (Value.str (τ "__init__") 576) (Value.ref 307)), (DictEntry.mk (η P (τ "__static_attributes__")) (Value.str (τ "__static_attributes__") 578) (Value.ref 308)), (DictEntry.mk (η P (τ "__doc__")) (Value.str (τ "__doc__") 579) .none)]) 2) #[])
def o310 (P : Params) : Obj := (Obj.mk (Value.type "type") none (Data.cls (ClassData.mk (τ "BadKeeper") [(Value.ref 24)] [(Value.ref 310), (Value.ref 24), (Value.type "ValueError"), (Value.type "Exception"), (Value.type "BaseException"), (Value.type "object")] 309 (τ "BadKeeper") Bool.true [] [] Bool.false none Bool.false)) (List.toArray [(Option.some (Value.ref 294)), none, (Option.some (Value.str (τ "BadKeeper") 557)), (Option.some (Value.str (τ "BadKeeper") 565)), (Option.some (Value.builtin "ValueError.__new__")), (Option.some (Value.bool Bool.true))]))
def g29 (P : Params) : List Obj := [o301 P, o302 P, o303 P, o304 P, o305 P, o306 P, o307 P, o308 P, o309 P, o310 P]
def o311 (P : Params) : Obj := (Obj.mk (Value.type "super") none (Data.fields (List.toArray [(Value.ref 310), (Value.ref 310), (Value.ref 310)])) #[])
def o312 (P : Params) : Obj := (Obj.mk (Value.type "builtin_function_or_method") none (Data.fields (List.toArray [(Value.builtin "object.__init_subclass__"), (Value.ref 310)])) #[])
def o313 (P : Params) : Obj := (Obj.mk (Value.type "tuple") none (Data.seq (List.toArray [(Value.ref 24)]) 0) #[])
def o314 (P : Params) : Obj := (Obj.mk (Value.type "builtin_function_or_method") none (Data.fields (List.toArray [(Value.builtin "type.__prepare__"), (Value.type "type")])) #[])
def o315 (P : Params) : Obj := (Obj.mk (Value.type "dict") none (Data.dict (List.toArray [(DictEntry.mk (η P (τ "__module__")) (Value.str (τ "__module__") 589) (Value.str (τ "lastfaces.errors") 187)), (DictEntry.mk (η P (τ "__qualname__")) (Value.str (τ "__qualname__") 591) (Value.str (τ "BadKept") 590)), (DictEntry.mk (η P (τ "__firstlineno__")) (Value.str (τ "__firstlineno__") 593) (Value.int 64 592)), (DictEntry.mk (η P (τ "__init__")) (Value.str (τ "__init__") 601) (Value.ref 326)), (DictEntry.mk (η P (τ "__static_attributes__")) (Value.str (τ "__static_attributes__") 603) (Value.ref 327))]) 5) #[])
def o316 (P : Params) : Obj := (Obj.mk (Value.type "tuple") none (Data.seq #[] 0) #[])
def o317 (P : Params) : Obj := (Obj.mk .none none (Data.fields (List.toArray [(ι 66), (ι 4), (Value.ref 325)])) #[])
def o318 (P : Params) : Obj := (Obj.mk (Value.type "code") none (Data.fields (List.toArray [(Value.str (τ "BadKept") 584), (Value.str (τ "BadKept") 585), (Value.str (τ "/claim/cut.py") 586), (ι 64), (ι 0), (ι 0), (ι 0), (ι 0), (Value.ref 316), (Value.bool Bool.false), (ι 181), (Value.ref 317), .none, .none, .none, .none, (ι 587), (ι 64), (Value.str (τ "/claim/cut.py") 588)])) #[])
def o319 (P : Params) : Obj := (Obj.mk (Value.type "frame") none Data.plain (List.toArray [(Option.some (Value.ref 318)), (Option.some (Value.ref 3)), (Option.some (Value.ref 315)), none, (Option.some (Value.str (τ "lastfaces.errors") 187)), none, (Option.some (Value.ref 0))]))
def o320 (P : Params) : Obj := (Obj.mk (Value.type "tuple") none (Data.seq #[] 0) #[])
def g30 (P : Params) : List Obj := [o311 P, o312 P, o313 P, o314 P, o315 P, o316 P, o317 P, o318 P, o319 P, o320 P]
def o321 (P : Params) : Obj := (Obj.mk .none none (Data.fields #[]) #[])
def o322 (P : Params) : Obj := (Obj.mk (Value.type "tuple") none (Data.seq (List.toArray [(Value.str (τ "self") 597), (Value.str (τ "thing") 598)]) 0) #[])
def o323 (P : Params) : Obj := (Obj.mk (Value.type "tuple") none (Data.seq #[] 0) #[])
def o324 (P : Params) : Obj := (Obj.mk .none none (Data.func (FuncData.mk (τ "__init__") (τ "BadKept.__init__") (Arguments.mk [] [(Arg.mk (τ "self") none ⟨66,17,66,21⟩), (Arg.mk (τ "thing") none ⟨66,23,66,28⟩)] none [] [] none []) (FuncBody.stmts [(Stmt.Assign [(Expr.Attribute (Expr.Name (τ "self") ⟨67,8,67,12⟩) (τ "thing") ⟨67,8,67,18⟩)] (Expr.Name (τ "thing") ⟨67,21,67,26⟩) ⟨67,8,67,26⟩)]) (Scope.mk ScopeKind.function [((τ "self"), NameKind.local), ((τ "thing"), NameKind.local)] Bool.false Bool.false []) 0 [] .none .none .none .none none .none .none 0)) #[])
def o325 (P : Params) : Obj := (Obj.mk (Value.type "code") none (Data.fields (List.toArray [(Value.str (τ "__init__") 594), (Value.str (τ "BadKept.__init__") 595), (Value.str (τ "/claim/cut.py") 596), (ι 66), (ι 2), (ι 0), (ι 0), (ι 3), (Value.ref 320), (Value.bool Bool.true), (ι 181), (Value.ref 321), .none, (Value.ref 322), (Value.ref 323), (Value.ref 324), (ι 599), (ι 66), (Value.str (τ "/claim/cut.py") 600)])) #[])
def o326 (P : Params) : Obj := (Obj.mk (Value.type "function") none (Data.func (FuncData.mk (τ "__init__") (τ "BadKept.__init__") (Arguments.mk [] [(Arg.mk (τ "self") none ⟨66,17,66,21⟩), (Arg.mk (τ "thing") none ⟨66,23,66,28⟩)] none [] [] none []) (FuncBody.stmts [(Stmt.Assign [(Expr.Attribute (Expr.Name (τ "self") ⟨67,8,67,12⟩) (τ "thing") ⟨67,8,67,18⟩)] (Expr.Name (τ "thing") ⟨67,21,67,26⟩) ⟨67,8,67,26⟩)]) (Scope.mk ScopeKind.function [((τ "self"), NameKind.local), ((τ "thing"), NameKind.local)] Bool.false Bool.false []) 3 [] .none .none .none (Value.str (τ "lastfaces.errors") 187) none (Value.ref 325) .none 0)) #[])
def o327 (P : Params) : Obj := (Obj.mk (Value.type "tuple") none (Data.seq (List.toArray [(Value.str (τ "thing") 602)]) 0) #[])
def o328 (P : Params) : Obj := (Obj.mk (Value.type "dict") none (Data.dict (List.toArray [(DictEntry.mk (η P (τ "__module__")) (Value.str (τ "__module__") 589) (Value.str (τ "lastfaces.errors") 187)), (DictEntry.mk (η P (τ "__firstlineno__")) (Value.str (τ "__firstlineno__") 593) (Value.int 64 592)), (DictEntry.mk (η P (τ "__init__")) (Value.str (τ "__init__") 601) (Value.ref 326)), (DictEntry.mk (η P (τ "__static_attributes__")) (Value.str (τ "__static_attributes__") 603) (Value.ref 327)), (DictEntry.mk (η P (τ "__doc__")) (Value.str (τ "__doc__") 604) .none)]) 2) #[])
def o329 (P : Params) : Obj := (Obj.mk (Value.type "type") none (Data.cls (ClassData.mk (τ "BadKept") [(Value.ref 24)] [(Value.ref 329), (Value.ref 24), (Value.type "ValueError"), (Value.type "Exception"), (Value.type "BaseException"), (Value.type "object")] 328 (τ "BadKept") Bool.true [] [] Bool.false none Bool.false)) (List.toArray [(Option.some (Value.ref 313)), none, (Option.some (Value.str (τ "BadKept") 582)), (Option.some (Value.str (τ "BadKept") 590)), (Option.some (Value.builtin "ValueError.__new__")), (Option.some (Value.bool Bool.true))]))
def o330 (P : Params) : Obj := (Obj.mk (Value.type "super") none (Data.fields (List.toArray [(Value.ref 329), (Value.ref 329), (Value.ref 329)])) #[])
def g31 (P : Params) : List Obj := [o321 P, o322 P, o323 P, o324 P, o325 P, o326 P, o327 P, o328 P, o329 P, o330 P]
def o331 (P : Params) : Obj := (Obj.mk (Value.type "builtin_function_or_method") none (Data.fields (List.toArray [(Value.builtin "object.__init_subclass__"), (Value.ref 329)])) #[])
def o332 (P : Params) : Obj := (Obj.mk (Value.type "tuple") none (Data.seq (List.toArray [(Value.ref 24)]) 0) #[])
def o333 (P : Params) : Obj := (Obj.mk (Value.type "builtin_function_or_method") none (Data.fields (List.toArray [(Value.builtin "type.__prepare__"), (Value.type "type")])) #[])
def o334 (P : Params) : Obj := (Obj.mk (Value.type "dict") none (Data.dict (List.toArray [(DictEntry.mk (η P (τ "__module__")) (Value.str (τ "__module__") 614) (Value.str (τ "lastfaces.errors") 187)), (DictEntry.mk (η P (τ "__qualname__")) (Value.str (τ "__qualname__") 616) (Value.str (τ "BadLandings") 615)), (DictEntry.mk (η P (τ "__firstlineno__")) (Value.str (τ "__firstlineno__") 618) (Value.int 68 617)), (DictEntry.mk (η P (τ "__init__")) (Value.str (τ "__init__") 626) (Value.ref 345)), (DictEntry.mk (η P (τ "__static_attributes__")) (Value.str (τ "__static_attributes__") 628) (Value.ref 346))]) 5) #[])
def o335 (P : Params) : Obj := (Obj.mk (Value.type "tuple") none (Data.seq #[] 0) #[])
def o336 (P : Params) : Obj := (Obj.mk .none none (Data.fields (List.toArray [(ι 70), (ι 4), (Value.ref 344)])) #[])
def o337 (P : Params) : Obj := (Obj.mk (Value.type "code") none (Data.fields (List.toArray [(Value.str (τ "BadLandings") 609), (Value.str (τ "BadLandings") 610), (Value.str (τ "/claim/cut.py") 611), (ι 68), (ι 0), (ι 0), (ι 0), (ι 0), (Value.ref 335), (Value.bool Bool.false), (ι 181), (Value.ref 336), .none, .none, .none, .none, (ι 612), (ι 68), (Value.str (τ "/claim/cut.py") 613)])) #[])
def o338 (P : Params) : Obj := (Obj.mk (Value.type "frame") none Data.plain (List.toArray [(Option.some (Value.ref 337)), (Option.some (Value.ref 3)), (Option.some (Value.ref 334)), none, (Option.some (Value.str (τ "lastfaces.errors") 187)), none, (Option.some (Value.ref 0))]))
def o339 (P : Params) : Obj := (Obj.mk (Value.type "tuple") none (Data.seq #[] 0) #[])
def o340 (P : Params) : Obj := (Obj.mk .none none (Data.fields #[]) #[])
def g32 (P : Params) : List Obj := [o331 P, o332 P, o333 P, o334 P, o335 P, o336 P, o337 P, o338 P, o339 P, o340 P]
def o341 (P : Params) : Obj := (Obj.mk (Value.type "tuple") none (Data.seq (List.toArray [(Value.str (τ "self") 622), (Value.str (τ "index") 623)]) 0) #[])
def o342 (P : Params) : Obj := (Obj.mk (Value.type "tuple") none (Data.seq #[] 0) #[])
def o343 (P : Params) : Obj := (Obj.mk .none none (Data.func (FuncData.mk (τ "__init__") (τ "BadLandings.__init__") (Arguments.mk [] [(Arg.mk (τ "self") none ⟨70,17,70,21⟩), (Arg.mk (τ "index") none ⟨70,23,70,28⟩)] none [] [] none []) (FuncBody.stmts [(Stmt.Assign [(Expr.Attribute (Expr.Name (τ "self") ⟨71,8,71,12⟩) (τ "index") ⟨71,8,71,18⟩)] (Expr.Name (τ "index") ⟨71,21,71,26⟩) ⟨71,8,71,26⟩)]) (Scope.mk ScopeKind.function [((τ "self"), NameKind.local), ((τ "index"), NameKind.local)] Bool.false Bool.false []) 0 [] .none .none .none .none none .none .none 0)) #[])
def o344 (P : Params) : Obj := (Obj.mk (Value.type "code") none (Data.fields (List.toArray [(Value.str (τ "__init__") 619), (Value.str (τ "BadLandings.__init__") 620), (Value.str (τ "/claim/cut.py") 621), (ι 70), (ι 2), (ι 0), (ι 0), (ι 3), (Value.ref 339), (Value.bool Bool.true), (ι 181), (Value.ref 340), .none, (Value.ref 341), (Value.ref 342), (Value.ref 343), (ι 624), (ι 70), (Value.str (τ "/claim/cut.py") 625)])) #[])
def o345 (P : Params) : Obj := (Obj.mk (Value.type "function") none (Data.func (FuncData.mk (τ "__init__") (τ "BadLandings.__init__") (Arguments.mk [] [(Arg.mk (τ "self") none ⟨70,17,70,21⟩), (Arg.mk (τ "index") none ⟨70,23,70,28⟩)] none [] [] none []) (FuncBody.stmts [(Stmt.Assign [(Expr.Attribute (Expr.Name (τ "self") ⟨71,8,71,12⟩) (τ "index") ⟨71,8,71,18⟩)] (Expr.Name (τ "index") ⟨71,21,71,26⟩) ⟨71,8,71,26⟩)]) (Scope.mk ScopeKind.function [((τ "self"), NameKind.local), ((τ "index"), NameKind.local)] Bool.false Bool.false []) 3 [] .none .none .none (Value.str (τ "lastfaces.errors") 187) none (Value.ref 344) .none 0)) #[])
def o346 (P : Params) : Obj := (Obj.mk (Value.type "tuple") none (Data.seq (List.toArray [(Value.str (τ "index") 627)]) 0) #[])
def o347 (P : Params) : Obj := (Obj.mk (Value.type "dict") none (Data.dict (List.toArray [(DictEntry.mk (η P (τ "__module__")) (Value.str (τ "__module__") 614) (Value.str (τ "lastfaces.errors") 187)), (DictEntry.mk (η P (τ "__firstlineno__")) (Value.str (τ "__firstlineno__") 618) (Value.int 68 617)), (DictEntry.mk (η P (τ "__init__")) (Value.str (τ "__init__") 626) (Value.ref 345)), (DictEntry.mk (η P (τ "__static_attributes__")) (Value.str (τ "__static_attributes__") 628) (Value.ref 346)), (DictEntry.mk (η P (τ "__doc__")) (Value.str (τ "__doc__") 629) .none)]) 2) #[])
def o348 (P : Params) : Obj := (Obj.mk (Value.type "type") none (Data.cls (ClassData.mk (τ "BadLandings") [(Value.ref 24)] [(Value.ref 348), (Value.ref 24), (Value.type "ValueError"), (Value.type "Exception"), (Value.type "BaseException"), (Value.type "object")] 347 (τ "BadLandings") Bool.true [] [] Bool.false none Bool.false)) (List.toArray [(Option.some (Value.ref 332)), none, (Option.some (Value.str (τ "BadLandings") 607)), (Option.some (Value.str (τ "BadLandings") 615)), (Option.some (Value.builtin "ValueError.__new__")), (Option.some (Value.bool Bool.true))]))
def o349 (P : Params) : Obj := (Obj.mk (Value.type "super") none (Data.fields (List.toArray [(Value.ref 348), (Value.ref 348), (Value.ref 348)])) #[])
def o350 (P : Params) : Obj := (Obj.mk (Value.type "builtin_function_or_method") none (Data.fields (List.toArray [(Value.builtin "object.__init_subclass__"), (Value.ref 348)])) #[])
def g33 (P : Params) : List Obj := [o341 P, o342 P, o343 P, o344 P, o345 P, o346 P, o347 P, o348 P, o349 P, o350 P]
def o351 (P : Params) : Obj := (Obj.mk (Value.type "tuple") none (Data.seq (List.toArray [(Value.ref 24)]) 0) #[])
def o352 (P : Params) : Obj := (Obj.mk (Value.type "builtin_function_or_method") none (Data.fields (List.toArray [(Value.builtin "type.__prepare__"), (Value.type "type")])) #[])
def o353 (P : Params) : Obj := (Obj.mk (Value.type "dict") none (Data.dict (List.toArray [(DictEntry.mk (η P (τ "__module__")) (Value.str (τ "__module__") 639) (Value.str (τ "lastfaces.errors") 187)), (DictEntry.mk (η P (τ "__qualname__")) (Value.str (τ "__qualname__") 641) (Value.str (τ "BadLists") 640)), (DictEntry.mk (η P (τ "__firstlineno__")) (Value.str (τ "__firstlineno__") 643) (Value.int 72 642)), (DictEntry.mk (η P (τ "__init__")) (Value.str (τ "__init__") 651) (Value.ref 364)), (DictEntry.mk (η P (τ "__static_attributes__")) (Value.str (τ "__static_attributes__") 653) (Value.ref 365))]) 5) #[])
def o354 (P : Params) : Obj := (Obj.mk (Value.type "tuple") none (Data.seq #[] 0) #[])
def o355 (P : Params) : Obj := (Obj.mk .none none (Data.fields (List.toArray [(ι 74), (ι 4), (Value.ref 363)])) #[])
def o356 (P : Params) : Obj := (Obj.mk (Value.type "code") none (Data.fields (List.toArray [(Value.str (τ "BadLists") 634), (Value.str (τ "BadLists") 635), (Value.str (τ "/claim/cut.py") 636), (ι 72), (ι 0), (ι 0), (ι 0), (ι 0), (Value.ref 354), (Value.bool Bool.false), (ι 181), (Value.ref 355), .none, .none, .none, .none, (ι 637), (ι 72), (Value.str (τ "/claim/cut.py") 638)])) #[])
def o357 (P : Params) : Obj := (Obj.mk (Value.type "frame") none Data.plain (List.toArray [(Option.some (Value.ref 356)), (Option.some (Value.ref 3)), (Option.some (Value.ref 353)), none, (Option.some (Value.str (τ "lastfaces.errors") 187)), none, (Option.some (Value.ref 0))]))
def o358 (P : Params) : Obj := (Obj.mk (Value.type "tuple") none (Data.seq #[] 0) #[])
def o359 (P : Params) : Obj := (Obj.mk .none none (Data.fields #[]) #[])
def o360 (P : Params) : Obj := (Obj.mk (Value.type "tuple") none (Data.seq (List.toArray [(Value.str (τ "self") 647), (Value.str (τ "thing") 648)]) 0) #[])
def g34 (P : Params) : List Obj := [o351 P, o352 P, o353 P, o354 P, o355 P, o356 P, o357 P, o358 P, o359 P, o360 P]
def o361 (P : Params) : Obj := (Obj.mk (Value.type "tuple") none (Data.seq #[] 0) #[])
def o362 (P : Params) : Obj := (Obj.mk .none none (Data.func (FuncData.mk (τ "__init__") (τ "BadLists.__init__") (Arguments.mk [] [(Arg.mk (τ "self") none ⟨74,17,74,21⟩), (Arg.mk (τ "thing") none ⟨74,23,74,28⟩)] none [] [] none []) (FuncBody.stmts [(Stmt.Assign [(Expr.Attribute (Expr.Name (τ "self") ⟨75,8,75,12⟩) (τ "thing") ⟨75,8,75,18⟩)] (Expr.Name (τ "thing") ⟨75,21,75,26⟩) ⟨75,8,75,26⟩)]) (Scope.mk ScopeKind.function [((τ "self"), NameKind.local), ((τ "thing"), NameKind.local)] Bool.false Bool.false []) 0 [] .none .none .none .none none .none .none 0)) #[])
def o363 (P : Params) : Obj := (Obj.mk (Value.type "code") none (Data.fields (List.toArray [(Value.str (τ "__init__") 644), (Value.str (τ "BadLists.__init__") 645), (Value.str (τ "/claim/cut.py") 646), (ι 74), (ι 2), (ι 0), (ι 0), (ι 3), (Value.ref 358), (Value.bool Bool.true), (ι 181), (Value.ref 359), .none, (Value.ref 360), (Value.ref 361), (Value.ref 362), (ι 649), (ι 74), (Value.str (τ "/claim/cut.py") 650)])) #[])
def o364 (P : Params) : Obj := (Obj.mk (Value.type "function") none (Data.func (FuncData.mk (τ "__init__") (τ "BadLists.__init__") (Arguments.mk [] [(Arg.mk (τ "self") none ⟨74,17,74,21⟩), (Arg.mk (τ "thing") none ⟨74,23,74,28⟩)] none [] [] none []) (FuncBody.stmts [(Stmt.Assign [(Expr.Attribute (Expr.Name (τ "self") ⟨75,8,75,12⟩) (τ "thing") ⟨75,8,75,18⟩)] (Expr.Name (τ "thing") ⟨75,21,75,26⟩) ⟨75,8,75,26⟩)]) (Scope.mk ScopeKind.function [((τ "self"), NameKind.local), ((τ "thing"), NameKind.local)] Bool.false Bool.false []) 3 [] .none .none .none (Value.str (τ "lastfaces.errors") 187) none (Value.ref 363) .none 0)) #[])
def o365 (P : Params) : Obj := (Obj.mk (Value.type "tuple") none (Data.seq (List.toArray [(Value.str (τ "thing") 652)]) 0) #[])
def o366 (P : Params) : Obj := (Obj.mk (Value.type "dict") none (Data.dict (List.toArray [(DictEntry.mk (η P (τ "__module__")) (Value.str (τ "__module__") 639) (Value.str (τ "lastfaces.errors") 187)), (DictEntry.mk (η P (τ "__firstlineno__")) (Value.str (τ "__firstlineno__") 643) (Value.int 72 642)), (DictEntry.mk (η P (τ "__init__")) (Value.str (τ "__init__") 651) (Value.ref 364)), (DictEntry.mk (η P (τ "__static_attributes__")) (Value.str (τ "__static_attributes__") 653) (Value.ref 365)), (DictEntry.mk (η P (τ "__doc__")) (Value.str (τ "__doc__") 654) .none)]) 2) #[])
def o367 (P : Params) : Obj := (Obj.mk (Value.type "type") none (Data.cls (ClassData.mk (τ "BadLists") [(Value.ref 24)] [(Value.ref 367), (Value.ref 24), (Value.type "ValueError"), (Value.type "Exception"), (Value.type "BaseException"), (Value.type "object")] 366 (τ "BadLists") Bool.true [] [] Bool.false none Bool.false)) (List.toArray [(Option.some (Value.ref 351)), none, (Option.some (Value.str (τ "BadLists") 632)), (Option.some (Value.str (τ "BadLists") 640)), (Option.some (Value.builtin "ValueError.__new__")), (Option.some (Value.bool Bool.true))]))
def o368 (P : Params) : Obj := (Obj.mk (Value.type "super") none (Data.fields (List.toArray [(Value.ref 367), (Value.ref 367), (Value.ref 367)])) #[])
def o369 (P : Params) : Obj := (Obj.mk (Value.type "builtin_function_or_method") none (Data.fields (List.toArray [(Value.builtin "object.__init_subclass__"), (Value.ref 367)])) #[])
def o370 (P : Params) : Obj := (Obj.mk (Value.type "tuple") none (Data.seq (List.toArray [(Value.ref 24)]) 0) #[])
def g35 (P : Params) : List Obj := [o361 P, o362 P, o363 P, o364 P, o365 P, o366 P, o367 P, o368 P, o369 P, o370 P]
def o371 (P : Params) : Obj := (Obj.mk (Value.type "builtin_function_or_method") none (Data.fields (List.toArray [(Value.builtin "type.__prepare__"), (Value.type "type")])) #[])
def o372 (P : Params) : Obj := (Obj.mk (Value.type "dict") none (Data.dict (List.toArray [(DictEntry.mk (η P (τ "__module__")) (Value.str (τ "__module__") 664) (Value.str (τ "lastfaces.errors") 187)), (DictEntry.mk (η P (τ "__qualname__")) (Value.str (τ "__qualname__") 666) (Value.str (τ "BadLooker") 665)), (DictEntry.mk (η P (τ "__firstlineno__")) (Value.str (τ "__firstlineno__") 668) (Value.int 76 667)), (DictEntry.mk (η P (τ "__init__")) (Value.str (τ "__init__") 676) (Value.ref 383)), (DictEntry.mk (η P (τ "__static_attributes__")) (Value.str (τ "__static_attributes__") 678) (Value.ref 384))]) 5) #[])
def o373 (P : Params) : Obj := (Obj.mk (Value.type "tuple") none (Data.seq #[] 0) #[])
def o374 (P : Params) : Obj := (Obj.mk .none none (Data.fields (List.toArray [(ι 78), (ι 4), (Value.ref 382)])) #[])
def o375 (P : Params) : Obj := (Obj.mk (Value.type "code") none (Data.fields (List.toArray [(Value.str (τ "BadLooker") 659), (Value.str (τ "BadLooker") 660), (Value.str (τ "/claim/cut.py") 661), (ι 76), (ι 0), (ι 0), (ι 0), (ι 0), (Value.ref 373), (Value.bool Bool.false), (ι 181), (Value.ref 374), .none, .none, .none, .none, (ι 662), (ι 76), (Value.str (τ "/claim/cut.py") 663)])) #[])
def o376 (P : Params) : Obj := (Obj.mk (Value.type "frame") none Data.plain (List.toArray [(Option.some (Value.ref 375)), (Option.some (Value.ref 3)), (Option.some (Value.ref 372)), none, (Option.some (Value.str (τ "lastfaces.errors") 187)), none, (Option.some (Value.ref 0))]))
def o377 (P : Params) : Obj := (Obj.mk (Value.type "tuple") none (Data.seq #[] 0) #[])
def o378 (P : Params) : Obj := (Obj.mk .none none (Data.fields #[]) #[])
def o379 (P : Params) : Obj := (Obj.mk (Value.type "tuple") none (Data.seq (List.toArray [(Value.str (τ "self") 672), (Value.str (τ "thing") 673)]) 0) #[])
def o380 (P : Params) : Obj := (Obj.mk (Value.type "tuple") none (Data.seq #[] 0) #[])
def g36 (P : Params) : List Obj := [o371 P, o372 P, o373 P, o374 P, o375 P, o376 P, o377 P, o378 P, o379 P, o380 P]
def o381 (P : Params) : Obj := (Obj.mk .none none (Data.func (FuncData.mk (τ "__init__") (τ "BadLooker.__init__") (Arguments.mk [] [(Arg.mk (τ "self") none ⟨78,17,78,21⟩), (Arg.mk (τ "thing") none ⟨78,23,78,28⟩)] none [] [] none []) (FuncBody.stmts [(Stmt.Assign [(Expr.Attribute (Expr.Name (τ "self") ⟨79,8,79,12⟩) (τ "thing") ⟨79,8,79,18⟩)] (Expr.Name (τ "thing") ⟨79,21,79,26⟩) ⟨79,8,79,26⟩)]) (Scope.mk ScopeKind.function [((τ "self"), NameKind.local), ((τ "thing"), NameKind.local)] Bool.false Bool.false []) 0 [] .none .none .none .none none .none .none 0)) #[])
def o382 (P : Params) : Obj := (Obj.mk (Value.type "code") none (Data.fields (List.toArray [(Value.str (τ "__init__") 669), (Value.str (τ "BadLooker.__init__") 670), (Value.str (τ "/claim/cut.py") 671), (ι 78), (ι 2), (ι 0), (ι 0), (ι 3), (Value.ref 377), (Value.bool Bool.true), (ι 181), (Value.ref 378), .none, (Value.ref 379), (Value.ref 380), (Value.ref 381), (ι 674), (ι 78), (Value.str (τ "/claim/cut.py") 675)])) #[])
def o383 (P : Params) : Obj := (Obj.mk (Value.type "function") none (Data.func (FuncData.mk (τ "__init__") (τ "BadLooker.__init__") (Arguments.mk [] [(Arg.mk (τ "self") none ⟨78,17,78,21⟩), (Arg.mk (τ "thing") none ⟨78,23,78,28⟩)] none [] [] none []) (FuncBody.stmts [(Stmt.Assign [(Expr.Attribute (Expr.Name (τ "self") ⟨79,8,79,12⟩) (τ "thing") ⟨79,8,79,18⟩)] (Expr.Name (τ "thing") ⟨79,21,79,26⟩) ⟨79,8,79,26⟩)]) (Scope.mk ScopeKind.function [((τ "self"), NameKind.local), ((τ "thing"), NameKind.local)] Bool.false Bool.false []) 3 [] .none .none .none (Value.str (τ "lastfaces.errors") 187) none (Value.ref 382) .none 0)) #[])
def o384 (P : Params) : Obj := (Obj.mk (Value.type "tuple") none (Data.seq (List.toArray [(Value.str (τ "thing") 677)]) 0) #[])
def o385 (P : Params) : Obj := (Obj.mk (Value.type "dict") none (Data.dict (List.toArray [(DictEntry.mk (η P (τ "__module__")) (Value.str (τ "__module__") 664) (Value.str (τ "lastfaces.errors") 187)), (DictEntry.mk (η P (τ "__firstlineno__")) (Value.str (τ "__firstlineno__") 668) (Value.int 76 667)), (DictEntry.mk (η P (τ "__init__")) (Value.str (τ "__init__") 676) (Value.ref 383)), (DictEntry.mk (η P (τ "__static_attributes__")) (Value.str (τ "__static_attributes__") 678) (Value.ref 384)), (DictEntry.mk (η P (τ "__doc__")) (Value.str (τ "__doc__") 679) .none)]) 2) #[])
def o386 (P : Params) : Obj := (Obj.mk (Value.type "type") none (Data.cls (ClassData.mk (τ "BadLooker") [(Value.ref 24)] [(Value.ref 386), (Value.ref 24), (Value.type "ValueError"), (Value.type "Exception"), (Value.type "BaseException"), (Value.type "object")] 385 (τ "BadLooker") Bool.true [] [] Bool.false none Bool.false)) (List.toArray [(Option.some (Value.ref 370)), none, (Option.some (Value.str (τ "BadLooker") 657)), (Option.some (Value.str (τ "BadLooker") 665)), (Option.some (Value.builtin "ValueError.__new__")), (Option.some (Value.bool Bool.true))]))
def o387 (P : Params) : Obj := (Obj.mk (Value.type "super") none (Data.fields (List.toArray [(Value.ref 386), (Value.ref 386), (Value.ref 386)])) #[])
def o388 (P : Params) : Obj := (Obj.mk (Value.type "builtin_function_or_method") none (Data.fields (List.toArray [(Value.builtin "object.__init_subclass__"), (Value.ref 386)])) #[])
def o389 (P : Params) : Obj := (Obj.mk (Value.type "tuple") none (Data.seq (List.toArray [(Value.ref 24)]) 0) #[])
def o390 (P : Params) : Obj := (Obj.mk (Value.type "builtin_function_or_method") none (Data.fields (List.toArray [(Value.builtin "type.__prepare__"), (Value.type "type")])) #[])
def g37 (P : Params) : List Obj := [o381 P, o382 P, o383 P, o384 P, o385 P, o386 P, o387 P, o388 P, o389 P, o390 P]
def o391 (P : Params) : Obj := (Obj.mk (Value.type "dict") none (Data.dict (List.toArray [(DictEntry.mk (η P (τ "__module__")) (Value.str (τ "__module__") 689) (Value.str (τ "lastfaces.errors") 187)), (DictEntry.mk (η P (τ "__qualname__")) (Value.str (τ "__qualname__") 691) (Value.str (τ "BadMany") 690)), (DictEntry.mk (η P (τ "__firstlineno__")) (Value.str (τ "__firstlineno__") 693) (Value.int 80 692)), (DictEntry.mk (η P (τ "__init__")) (Value.str (τ "__init__") 701) (Value.ref 402)), (DictEntry.mk (η P (τ "__static_attributes__")) (Value.str (τ "__static_attributes__") 703) (Value.ref 403))]) 5) #[])
def o392 (P : Params) : Obj := (Obj.mk (Value.type "tuple") none (Data.seq #[] 0) #[])
def o393 (P : Params) : Obj := (Obj.mk .none none (Data.fields (List.toArray [(ι 82), (ι 4), (Value.ref 401)])) #[])
def o394 (P : Params) : Obj := (Obj.mk (Value.type "code") none (Data.fields (List.toArray [(Value.str (τ "BadMany") 684), (Value.str (τ "BadMany") 685), (Value.str (τ "/claim/cut.py") 686), (ι 80), (ι 0), (ι 0), (ι 0), (ι 0), (Value.ref 392), (Value.bool Bool.false), (ι 181), (Value.ref 393), .none, .none, .none, .none, (ι 687), (ι 80), (Value.str (τ "/claim/cut.py") 688)])) #[])
def o395 (P : Params) : Obj := (Obj.mk (Value.type "frame") none Data.plain (List.toArray [(Option.some (Value.ref 394)), (Option.some (Value.ref 3)), (Option.some (Value.ref 391)), none, (Option.some (Value.str (τ "lastfaces.errors") 187)), none, (Option.some (Value.ref 0))]))
def o396 (P : Params) : Obj := (Obj.mk (Value.type "tuple") none (Data.seq #[] 0) #[])
def o397 (P : Params) : Obj := (Obj.mk .none none (Data.fields #[]) #[])
def o398 (P : Params) : Obj := (Obj.mk (Value.type "tuple") none (Data.seq (List.toArray [(Value.str (τ "self") 697), (Value.str (τ "many") 698)]) 0) #[])
def o399 (P : Params) : Obj := (Obj.mk (Value.type "tuple") none (Data.seq #[] 0) #[])
def o400 (P : Params) : Obj := (Obj.mk .none none (Data.func (FuncData.mk (τ "__init__") (τ "BadMany.__init__") (Arguments.mk [] [(Arg.mk (τ "self") none ⟨82,17,82,21⟩), (Arg.mk (τ "many") none ⟨82,23,82,27⟩)] none [] [] none []) (FuncBody.stmts [(Stmt.Assign [(Expr.Attribute (Expr.Name (τ "self") ⟨83,8,83,12⟩) (τ "many") ⟨83,8,83,17⟩)] (Expr.Name (τ "many") ⟨83,20,83,24⟩) ⟨83,8,83,24⟩)]) (Scope.mk ScopeKind.function [((τ "self"), NameKind.local), ((τ "many"), NameKind.local)] Bool.false Bool.false []) 0 [] .none .none .none .none none .none .none 0)) #[])
def g38 (P : Params) : List Obj := [o391 P, o392 P, o393 P, o394 P, o395 P, o396 P, o397 P, o398 P, o399 P, o400 P]
def o401 (P : Params) : Obj := (Obj.mk (Value.type "code") none (Data.fields (List.toArray [(Value.str (τ "__init__") 694), (Value.str (τ "BadMany.__init__") 695), (Value.str (τ "/claim/cut.py") 696), (ι 82), (ι 2), (ι 0), (ι 0), (ι 3), (Value.ref 396), (Value.bool Bool.true), (ι 181), (Value.ref 397), .none, (Value.ref 398), (Value.ref 399), (Value.ref 400), (ι 699), (ι 82), (Value.str (τ "/claim/cut.py") 700)])) #[])
def o402 (P : Params) : Obj := (Obj.mk (Value.type "function") none (Data.func (FuncData.mk (τ "__init__") (τ "BadMany.__init__") (Arguments.mk [] [(Arg.mk (τ "self") none ⟨82,17,82,21⟩), (Arg.mk (τ "many") none ⟨82,23,82,27⟩)] none [] [] none []) (FuncBody.stmts [(Stmt.Assign [(Expr.Attribute (Expr.Name (τ "self") ⟨83,8,83,12⟩) (τ "many") ⟨83,8,83,17⟩)] (Expr.Name (τ "many") ⟨83,20,83,24⟩) ⟨83,8,83,24⟩)]) (Scope.mk ScopeKind.function [((τ "self"), NameKind.local), ((τ "many"), NameKind.local)] Bool.false Bool.false []) 3 [] .none .none .none (Value.str (τ "lastfaces.errors") 187) none (Value.ref 401) .none 0)) #[])
def o403 (P : Params) : Obj := (Obj.mk (Value.type "tuple") none (Data.seq (List.toArray [(Value.str (τ "many") 702)]) 0) #[])
def o404 (P : Params) : Obj := (Obj.mk (Value.type "dict") none (Data.dict (List.toArray [(DictEntry.mk (η P (τ "__module__")) (Value.str (τ "__module__") 689) (Value.str (τ "lastfaces.errors") 187)), (DictEntry.mk (η P (τ "__firstlineno__")) (Value.str (τ "__firstlineno__") 693) (Value.int 80 692)), (DictEntry.mk (η P (τ "__init__")) (Value.str (τ "__init__") 701) (Value.ref 402)), (DictEntry.mk (η P (τ "__static_attributes__")) (Value.str (τ "__static_attributes__") 703) (Value.ref 403)), (DictEntry.mk (η P (τ "__doc__")) (Value.str (τ "__doc__") 704) .none)]) 2) #[])
def o405 (P : Params) : Obj := (Obj.mk (Value.type "type") none (Data.cls (ClassData.mk (τ "BadMany") [(Value.ref 24)] [(Value.ref 405), (Value.ref 24), (Value.type "ValueError"), (Value.type "Exception"), (Value.type "BaseException"), (Value.type "object")] 404 (τ "BadMany") Bool.true [] [] Bool.false none Bool.false)) (List.toArray [(Option.some (Value.ref 389)), none, (Option.some (Value.str (τ "BadMany") 682)), (Option.some (Value.str (τ "BadMany") 690)), (Option.some (Value.builtin "ValueError.__new__")), (Option.some (Value.bool Bool.true))]))
def o406 (P : Params) : Obj := (Obj.mk (Value.type "super") none (Data.fields (List.toArray [(Value.ref 405), (Value.ref 405), (Value.ref 405)])) #[])
def o407 (P : Params) : Obj := (Obj.mk (Value.type "builtin_function_or_method") none (Data.fields (List.toArray [(Value.builtin "object.__init_subclass__"), (Value.ref 405)])) #[])
def o408 (P : Params) : Obj := (Obj.mk (Value.type "tuple") none (Data.seq (List.toArray [(Value.ref 24)]) 0) #[])
def o409 (P : Params) : Obj := (Obj.mk (Value.type "builtin_function_or_method") none (Data.fields (List.toArray [(Value.builtin "type.__prepare__"), (Value.type "type")])) #[])
def o410 (P : Params) : Obj := (Obj.mk (Value.type "dict") none (Data.dict (List.toArray [(DictEntry.mk (η P (τ "__module__")) (Value.str (τ "__module__") 714) (Value.str (τ "lastfaces.errors") 187)), (DictEntry.mk (η P (τ "__qualname__")) (Value.str (τ "__qualname__") 716) (Value.str (τ "BadMap") 715)), (DictEntry.mk (η P (τ "__firstlineno__")) (Value.str (τ "__firstlineno__") 718) (Value.int 84 717)), (DictEntry.mk (η P (τ "__init__")) (Value.str (τ "__init__") 726) (Value.ref 421)), (DictEntry.mk (η P (τ "__static_attributes__")) (Value.str (τ "__static_attributes__") 728) (Value.ref 422))]) 5) #[])
def g39 (P : Params) : List Obj := [o401 P, o402 P, o403 P, o404 P, o405 P, o406 P, o407 P, o408 P, o409 P, o410 P]
def o411 (P : Params) : Obj := (Obj.mk (Value.type "tuple") none (Data.seq #[] 0) #[])
def o412 (P : Params) : Obj := (Obj.mk .none none (Data.fields (List.toArray [(ι 86), (ι 4), (Value.ref 420)])) #[])
def o413 (P : Params) : Obj := (Obj.mk (Value.type "code") none (Data.fields (List.toArray [(Value.str (τ "BadMap") 709), (Value.str (τ "BadMap") 710), (Value.str (τ "/claim/cut.py") 711), (ι 84), (ι 0), (ι 0), (ι 0), (ι 0), (Value.ref 411), (Value.bool Bool.false), (ι 181), (Value.ref 412), .none, .none, .none, .none, (ι 712), (ι 84), (Value.str (τ "/claim/cut.py") 713)])) #[])
def o414 (P : Params) : Obj := (Obj.mk (Value.type "frame") none Data.plain (List.toArray [(Option.some (Value.ref 413)), (Option.some (Value.ref 3)), (Option.some (Value.ref 410)), none, (Option.some (Value.str (τ "lastfaces.errors") 187)), none, (Option.some (Value.ref 0))]))
def o415 (P : Params) : Obj := (Obj.mk (Value.type "tuple") none (Data.seq #[] 0) #[])
def o416 (P : Params) : Obj := (Obj.mk .none none (Data.fields #[]) #[])
def o417 (P : Params) : Obj := (Obj.mk (Value.type "tuple") none (Data.seq (List.toArray [(Value.str (τ "self") 722), (Value.str (τ "thing") 723)]) 0) #[])
def o418 (P : Params) : Obj := (Obj.mk (Value.type "tuple") none (Data.seq #[] 0) #[])
def o419 (P : Params) : Obj := (Obj.mk .none none (Data.func (FuncData.mk (τ "__init__") (τ "BadMap.__init__") (Arguments.mk [] [(Arg.mk (τ "self") none ⟨86,17,86,21⟩), (Arg.mk (τ "thing") none ⟨86,23,86,28⟩)] none [] [] none []) (FuncBody.stmts [(Stmt.Assign [(Expr.Attribute (Expr.Name (τ "self") ⟨87,8,87,12⟩) (τ "thing") ⟨87,8,87,18⟩)] (Expr.Name (τ "thing") ⟨87,21,87,26⟩) ⟨87,8,87,26⟩)]) (Scope.mk ScopeKind.function [((τ "self"), NameKind.local), ((τ "thing"), NameKind.local)] Bool.false Bool.false []) 0 [] .none .none .none .none none .none .none 0)) #[])
def o420 (P : Params) : Obj := (Obj.mk (Value.type "code") none (Data.fields (List.toArray [(Value.str (τ "__init__") 719), (Value.str (τ "BadMap.__init__") 720), (Value.str (τ "/claim/cut.py") 721), (ι 86), (ι 2), (ι 0), (ι 0), (ι 3), (Value.ref 415), (Value.bool Bool.true), (ι 181), (Value.ref 416), .none, (Value.ref 417), (Value.ref 418), (Value.ref 419), (ι 724), (ι 86), (Value.str (τ "/claim/cut.py") 725)])) #[])
def g40 (P : Params) : List Obj := [o411 P, o412 P, o413 P, o414 P, o415 P, o416 P, o417 P, o418 P, o419 P, o420 P]
def o421 (P : Params) : Obj := (Obj.mk (Value.type "function") none (Data.func (FuncData.mk (τ "__init__") (τ "BadMap.__init__") (Arguments.mk [] [(Arg.mk (τ "self") none ⟨86,17,86,21⟩), (Arg.mk (τ "thing") none ⟨86,23,86,28⟩)] none [] [] none []) (FuncBody.stmts [(Stmt.Assign [(Expr.Attribute (Expr.Name (τ "self") ⟨87,8,87,12⟩) (τ "thing") ⟨87,8,87,18⟩)] (Expr.Name (τ "thing") ⟨87,21,87,26⟩) ⟨87,8,87,26⟩)]) (Scope.mk ScopeKind.function [((τ "self"), NameKind.local), ((τ "thing"), NameKind.local)] Bool.false Bool.false []) 3 [] .none .none .none (Value.str (τ "lastfaces.errors") 187) none (Value.ref 420) .none 0)) #[])
def o422 (P : Params) : Obj := (Obj.mk (Value.type "tuple") none (Data.seq (List.toArray [(Value.str (τ "thing") 727)]) 0) #[])
def o423 (P : Params) : Obj := (Obj.mk (Value.type "dict") none (Data.dict (List.toArray [(DictEntry.mk (η P (τ "__module__")) (Value.str (τ "__module__") 714) (Value.str (τ "lastfaces.errors") 187)), (DictEntry.mk (η P (τ "__firstlineno__")) (Value.str (τ "__firstlineno__") 718) (Value.int 84 717)), (DictEntry.mk (η P (τ "__init__")) (Value.str (τ "__init__") 726) (Value.ref 421)), (DictEntry.mk (η P (τ "__static_attributes__")) (Value.str (τ "__static_attributes__") 728) (Value.ref 422)), (DictEntry.mk (η P (τ "__doc__")) (Value.str (τ "__doc__") 729) .none)]) 2) #[])
def o424 (P : Params) : Obj := (Obj.mk (Value.type "type") none (Data.cls (ClassData.mk (τ "BadMap") [(Value.ref 24)] [(Value.ref 424), (Value.ref 24), (Value.type "ValueError"), (Value.type "Exception"), (Value.type "BaseException"), (Value.type "object")] 423 (τ "BadMap") Bool.true [] [] Bool.false none Bool.false)) (List.toArray [(Option.some (Value.ref 408)), none, (Option.some (Value.str (τ "BadMap") 707)), (Option.some (Value.str (τ "BadMap") 715)), (Option.some (Value.builtin "ValueError.__new__")), (Option.some (Value.bool Bool.true))]))
def o425 (P : Params) : Obj := (Obj.mk (Value.type "super") none (Data.fields (List.toArray [(Value.ref 424), (Value.ref 424), (Value.ref 424)])) #[])
def o426 (P : Params) : Obj := (Obj.mk (Value.type "builtin_function_or_method") none (Data.fields (List.toArray [(Value.builtin "object.__init_subclass__"), (Value.ref 424)])) #[])
def o427 (P : Params) : Obj := (Obj.mk (Value.type "tuple") none (Data.seq (List.toArray [(Value.ref 24)]) 0) #[])
def o428 (P : Params) : Obj := (Obj.mk (Value.type "builtin_function_or_method") none (Data.fields (List.toArray [(Value.builtin "type.__prepare__"), (Value.type "type")])) #[])
def o429 (P : Params) : Obj := (Obj.mk (Value.type "dict") none (Data.dict (List.toArray [(DictEntry.mk (η P (τ "__module__")) (Value.str (τ "__module__") 739) (Value.str (τ "lastfaces.errors") 187)), (DictEntry.mk (η P (τ "__qualname__")) (Value.str (τ "__qualname__") 741) (Value.str (τ "BadName") 740)), (DictEntry.mk (η P (τ "__firstlineno__")) (Value.str (τ "__firstlineno__") 743) (Value.int 88 742)), (DictEntry.mk (η P (τ "__init__")) (Value.str (τ "__init__") 751) (Value.ref 440)), (DictEntry.mk (η P (τ "__static_attributes__")) (Value.str (τ "__static_attributes__") 753) (Value.ref 441))]) 5) #[])
def o430 (P : Params) : Obj := (Obj.mk (Value.type "tuple") none (Data.seq #[] 0) #[])
def g41 (P : Params) : List Obj := [o421 P, o422 P, o423 P, o424 P, o425 P, o426 P, o427 P, o428 P, o429 P, o430 P]
def o431 (P : Params) : Obj := (Obj.mk .none none (Data.fields (List.toArray [(ι 90), (ι 4), (Value.ref 439)])) #[])
def o432 (P : Params) : Obj := (Obj.mk (Value.type "code") none (Data.fields (List.toArray [(Value.str (τ "BadName") 734), (Value.str (τ "BadName") 735), (Value.str (τ "/claim/cut.py") 736), (ι 88), (ι 0), (ι 0), (ι 0), (ι 0), (Value.ref 430), (Value.bool Bool.false), (ι 181), (Value.ref 431), .none, .none, .none, .none, (ι 737), (ι 88), (Value.str (τ "/claim/cut.py") 738)])) #[])
def o433 (P : Params) : Obj := (Obj.mk (Value.type "frame") none Data.plain (List.toArray [(Option.some (Value.ref 432)), (Option.some (Value.ref 3)), (Option.some (Value.ref 429)), none, (Option.some (Value.str (τ "lastfaces.errors") 187)), none, (Option.some (Value.ref 0))]))
def o434 (P : Params) : Obj := (Obj.mk (Value.type "tuple") none (Data.seq #[] 0) #[])
def o435 (P : Params) : Obj := (Obj.mk .none none (Data.fields #[]) #[])
def o436 (P : Params) : Obj := (Obj.mk (Value.type "tuple") none (Data.seq (List.toArray [(Value.str (τ "self") 747), (Value.str (τ "thing") 748)]) 0) #[])
def o437 (P : Params) : Obj := (Obj.mk (Value.type "tuple") none (Data.seq #[] 0) #[])
def o438 (P : Params) : Obj := (Obj.mk .none none (Data.func (FuncData.mk (τ "__init__") (τ "BadName.__init__") (Arguments.mk [] [(Arg.mk (τ "self") none ⟨90,17,90,21⟩), (Arg.mk (τ "thing") none ⟨90,23,90,28⟩)] none [] [] none []) (FuncBody.stmts [(Stmt.Assign [(Expr.Attribute (Expr.Name (τ "self") ⟨91,8,91,12⟩) (τ "thing") ⟨91,8,91,18⟩)] (Expr.Name (τ "thing") ⟨91,21,91,26⟩) ⟨91,8,91,26⟩)]) (Scope.mk ScopeKind.function [((τ "self"), NameKind.local), ((τ "thing"), NameKind.local)] Bool.false Bool.false []) 0 [] .none .none .none .none none .none .none 0)) #[])
def o439 (P : Params) : Obj := (Obj.mk (Value.type "code") none (Data.fields (List.toArray [(Value.str (τ "__init__") 744), (Value.str (τ "BadName.__init__") 745), (Value.str (τ "/claim/cut.py") 746), (ι 90), (ι 2), (ι 0), (ι 0), (ι 3), (Value.ref 434), (Value.bool Bool.true), (ι 181), (Value.ref 435), .none, (Value.ref 436), (Value.ref 437), (Value.ref 438), (ι 749), (ι 90), (Value.str (τ "/claim/cut.py") 750)])) #[])
def o440 (P : Params) : Obj := (Obj.mk (Value.type "function") none (Data.func (FuncData.mk (τ "__init__") (τ "BadName.__init__") (Arguments.mk [] [(Arg.mk (τ "self") none ⟨90,17,90,21⟩), (Arg.mk (τ "thing") none ⟨90,23,90,28⟩)] none [] [] none []) (FuncBody.stmts [(Stmt.Assign [(Expr.Attribute (Expr.Name (τ "self") ⟨91,8,91,12⟩) (τ "thing") ⟨91,8,91,18⟩)] (Expr.Name (τ "thing") ⟨91,21,91,26⟩) ⟨91,8,91,26⟩)]) (Scope.mk ScopeKind.function [((τ "self"), NameKind.local), ((τ "thing"), NameKind.local)] Bool.false Bool.false []) 3 [] .none .none .none (Value.str (τ "lastfaces.errors") 187) none (Value.ref 439) .none 0)) #[])
def g42 (P : Params) : List Obj := [o431 P, o432 P, o433 P, o434 P, o435 P, o436 P, o437 P, o438 P, o439 P, o440 P]
def o441 (P : Params) : Obj := (Obj.mk (Value.type "tuple") none (Data.seq (List.toArray [(Value.str (τ "thing") 752)]) 0) #[])
def o442 (P : Params) : Obj := (Obj.mk (Value.type "dict") none (Data.dict (List.toArray [(DictEntry.mk (η P (τ "__module__")) (Value.str (τ "__module__") 739) (Value.str (τ "lastfaces.errors") 187)), (DictEntry.mk (η P (τ "__firstlineno__")) (Value.str (τ "__firstlineno__") 743) (Value.int 88 742)), (DictEntry.mk (η P (τ "__init__")) (Value.str (τ "__init__") 751) (Value.ref 440)), (DictEntry.mk (η P (τ "__static_attributes__")) (Value.str (τ "__static_attributes__") 753) (Value.ref 441)), (DictEntry.mk (η P (τ "__doc__")) (Value.str (τ "__doc__") 754) .none)]) 2) #[])
def o443 (P : Params) : Obj := (Obj.mk (Value.type "type") none (Data.cls (ClassData.mk (τ "BadName") [(Value.ref 24)] [(Value.ref 443), (Value.ref 24), (Value.type "ValueError"), (Value.type "Exception"), (Value.type "BaseException"), (Value.type "object")] 442 (τ "BadName") Bool.true [] [] Bool.false none Bool.false)) (List.toArray [(Option.some (Value.ref 427)), none, (Option.some (Value.str (τ "BadName") 732)), (Option.some (Value.str (τ "BadName") 740)), (Option.some (Value.builtin "ValueError.__new__")), (Option.some (Value.bool Bool.true))]))
def o444 (P : Params) : Obj := (Obj.mk (Value.type "super") none (Data.fields (List.toArray [(Value.ref 443), (Value.ref 443), (Value.ref 443)])) #[])
def o445 (P : Params) : Obj := (Obj.mk (Value.type "builtin_function_or_method") none (Data.fields (List.toArray [(Value.builtin "object.__init_subclass__"), (Value.ref 443)])) #[])
def o446 (P : Params) : Obj := (Obj.mk (Value.type "tuple") none (Data.seq (List.toArray [(Value.ref 24)]) 0) #[])
def o447 (P : Params) : Obj := (Obj.mk (Value.type "builtin_function_or_method") none (Data.fields (List.toArray [(Value.builtin "type.__prepare__"), (Value.type "type")])) #[])
def o448 (P : Params) : Obj := (Obj.mk (Value.type "dict") none (Data.dict (List.toArray [(DictEntry.mk (η P (τ "__module__")) (Value.str (τ "__module__") 764) (Value.str (τ "lastfaces.errors") 187)), (DictEntry.mk (η P (τ "__qualname__")) (Value.str (τ "__qualname__") 766) (Value.str (τ "BadNames") 765)), (DictEntry.mk (η P (τ "__firstlineno__")) (Value.str (τ "__firstlineno__") 768) (Value.int 92 767)), (DictEntry.mk (η P (τ "__init__")) (Value.str (τ "__init__") 776) (Value.ref 459)), (DictEntry.mk (η P (τ "__static_attributes__")) (Value.str (τ "__static_attributes__") 778) (Value.ref 460))]) 5) #[])
def o449 (P : Params) : Obj := (Obj.mk (Value.type "tuple") none (Data.seq #[] 0) #[])
def o450 (P : Params) : Obj := (Obj.mk .none none (Data.fields (List.toArray [(ι 94), (ι 4), (Value.ref 458)])) #[])
def g43 (P : Params) : List Obj := [o441 P, o442 P, o443 P, o444 P, o445 P, o446 P, o447 P, o448 P, o449 P, o450 P]
def o451 (P : Params) : Obj := (Obj.mk (Value.type "code") none (Data.fields (List.toArray [(Value.str (τ "BadNames") 759), (Value.str (τ "BadNames") 760), (Value.str (τ "/claim/cut.py") 761), (ι 92), (ι 0), (ι 0), (ι 0), (ι 0), (Value.ref 449), (Value.bool Bool.false), (ι 181), (Value.ref 450), .none, .none, .none, .none, (ι 762), (ι 92), (Value.str (τ "/claim/cut.py") 763)])) #[])
def o452 (P : Params) : Obj := (Obj.mk (Value.type "frame") none Data.plain (List.toArray [(Option.some (Value.ref 451)), (Option.some (Value.ref 3)), (Option.some (Value.ref 448)), none, (Option.some (Value.str (τ "lastfaces.errors") 187)), none, (Option.some (Value.ref 0))]))
def o453 (P : Params) : Obj := (Obj.mk (Value.type "tuple") none (Data.seq #[] 0) #[])
def o454 (P : Params) : Obj := (Obj.mk .none none (Data.fields #[]) #[])
def o455 (P : Params) : Obj := (Obj.mk (Value.type "tuple") none (Data.seq (List.toArray [(Value.str (τ "self") 772), (Value.str (τ "thing") 773)]) 0) #[])
def o456 (P : Params) : Obj := (Obj.mk (Value.type "tuple") none (Data.seq #[] 0) #[])
def o457 (P : Params) : Obj := (Obj.mk .none none (Data.func (FuncData.mk (τ "__init__") (τ "BadNames.__init__") (Arguments.mk [] [(Arg.mk (τ "self") none ⟨94,17,94,21⟩), (Arg.mk (τ "thing") none ⟨94,23,94,28⟩)] none [] [] none []) (FuncBody.stmts [(Stmt.Assign [(Expr.Attribute (Expr.Name (τ "self") ⟨95,8,95,12⟩) (τ "thing") ⟨95,8,95,18⟩)] (Expr.Name (τ "thing") ⟨95,21,95,26⟩) ⟨95,8,95,26⟩)]) (Scope.mk ScopeKind.function [((τ "self"), NameKind.local), ((τ "thing"), NameKind.local)] Bool.false Bool.false []) 0 [] .none .none .none .none none .none .none 0)) #[])
def o458 (P : Params) : Obj := (Obj.mk (Value.type "code") none (Data.fields (List.toArray [(Value.str (τ "__init__") 769), (Value.str (τ "BadNames.__init__") 770), (Value.str (τ "/claim/cut.py") 771), (ι 94), (ι 2), (ι 0), (ι 0), (ι 3), (Value.ref 453), (Value.bool Bool.true), (ι 181), (Value.ref 454), .none, (Value.ref 455), (Value.ref 456), (Value.ref 457), (ι 774), (ι 94), (Value.str (τ "/claim/cut.py") 775)])) #[])
def o459 (P : Params) : Obj := (Obj.mk (Value.type "function") none (Data.func (FuncData.mk (τ "__init__") (τ "BadNames.__init__") (Arguments.mk [] [(Arg.mk (τ "self") none ⟨94,17,94,21⟩), (Arg.mk (τ "thing") none ⟨94,23,94,28⟩)] none [] [] none []) (FuncBody.stmts [(Stmt.Assign [(Expr.Attribute (Expr.Name (τ "self") ⟨95,8,95,12⟩) (τ "thing") ⟨95,8,95,18⟩)] (Expr.Name (τ "thing") ⟨95,21,95,26⟩) ⟨95,8,95,26⟩)]) (Scope.mk ScopeKind.function [((τ "self"), NameKind.local), ((τ "thing"), NameKind.local)] Bool.false Bool.false []) 3 [] .none .none .none (Value.str (τ "lastfaces.errors") 187) none (Value.ref 458) .none 0)) #[])
def o460 (P : Params) : Obj := (Obj.mk (Value.type "tuple") none (Data.seq (List.toArray [(Value.str (τ "thing") 777)]) 0) #[])
def g44 (P : Params) : List Obj := [o451 P, o452 P, o453 P, o454 P, o455 P, o456 P, o457 P, o458 P, o459 P, o460 P]
def o461 (P : Params) : Obj := (Obj.mk (Value.type "dict") none (Data.dict (List.toArray [(DictEntry.mk (η P (τ "__module__")) (Value.str (τ "__module__") 764) (Value.str (τ "lastfaces.errors") 187)), (DictEntry.mk (η P (τ "__firstlineno__")) (Value.str (τ "__firstlineno__") 768) (Value.int 92 767)), (DictEntry.mk (η P (τ "__init__")) (Value.str (τ "__init__") 776) (Value.ref 459)), (DictEntry.mk (η P (τ "__static_attributes__")) (Value.str (τ "__static_attributes__") 778) (Value.ref 460)), (DictEntry.mk (η P (τ "__doc__")) (Value.str (τ "__doc__") 779) .none)]) 2) #[])
def o462 (P : Params) : Obj := (Obj.mk (Value.type "type") none (Data.cls (ClassData.mk (τ "BadNames") [(Value.ref 24)] [(Value.ref 462), (Value.ref 24), (Value.type "ValueError"), (Value.type "Exception"), (Value.type "BaseException"), (Value.type "object")] 461 (τ "BadNames") Bool.true [] [] Bool.false none Bool.false)) (List.toArray [(Option.some (Value.ref 446)), none, (Option.some (Value.str (τ "BadNames") 757)), (Option.some (Value.str (τ "BadNames") 765)), (Option.some (Value.builtin "ValueError.__new__")), (Option.some (Value.bool Bool.true))]))
def o463 (P : Params) : Obj := (Obj.mk (Value.type "super") none (Data.fields (List.toArray [(Value.ref 462), (Value.ref 462), (Value.ref 462)])) #[])
def o464 (P : Params) : Obj := (Obj.mk (Value.type "builtin_function_or_method") none (Data.fields (List.toArray [(Value.builtin "object.__init_subclass__"), (Value.ref 462)])) #[])
def o465 (P : Params) : Obj := (Obj.mk (Value.type "tuple") none (Data.seq (List.toArray [(Value.ref 24)]) 0) #[])
def o466 (P : Params) : Obj := (Obj.mk (Value.type "builtin_function_or_method") none (Data.fields (List.toArray [(Value.builtin "type.__prepare__"), (Value.type "type")])) #[])
def o467 (P : Params) : Obj := (Obj.mk (Value.type "dict") none (Data.dict (List.toArray [(DictEntry.mk (η P (τ "__module__")) (Value.str (τ "__module__") 789) (Value.str (τ "lastfaces.errors") 187)), (DictEntry.mk (η P (τ "__qualname__")) (Value.str (τ "__qualname__") 791) (Value.str (τ "BadNumber") 790)), (DictEntry.mk (η P (τ "__firstlineno__")) (Value.str (τ "__firstlineno__") 793) (Value.int 96 792)), (DictEntry.mk (η P (τ "__init__")) (Value.str (τ "__init__") 801) (Value.ref 478)), (DictEntry.mk (η P (τ "__static_attributes__")) (Value.str (τ "__static_attributes__") 803) (Value.ref 479))]) 5) #[])
def o468 (P : Params) : Obj := (Obj.mk (Value.type "tuple") none (Data.seq #[] 0) #[])
def o469 (P : Params) : Obj := (Obj.mk .none none (Data.fields (List.toArray [(ι 98), (ι 4), (Value.ref 477)])) #[])
def o470 (P : Params) : Obj := (Obj.mk (Value.type "code") none (Data.fields (List.toArray [(Value.str (τ "BadNumber") 784), (Value.str (τ "BadNumber") 785), (Value.str (τ "/claim/cut.py") 786), (ι 96), (ι 0), (ι 0), (ι 0), (ι 0), (Value.ref 468), (Value.bool Bool.false), (ι 181), (Value.ref 469), .none, .none, .none, .none, (ι 787), (ι 96), (Value.str (τ "/claim/cut.py") 788)])) #[])
def g45 (P : Params) : List Obj := [o461 P, o462 P, o463 P, o464 P, o465 P, o466 P, o467 P, o468 P, o469 P, o470 P]
def o471 (P : Params) : Obj := (Obj.mk (Value.type "frame") none Data.plain (List.toArray [(Option.some (Value.ref 470)), (Option.some (Value.ref 3)), (Option.some (Value.ref 467)), none, (Option.some (Value.str (τ "lastfaces.errors") 187)), none, (Option.some (Value.ref 0))]))
def o472 (P : Params) : Obj := (Obj.mk (Value.type "tuple") none (Data.seq #[] 0) #[])
def o473 (P : Params) : Obj := (Obj.mk .none none (Data.fields #[]) #[])
def o474 (P : Params) : Obj := (Obj.mk (Value.type "tuple") none (Data.seq (List.toArray [(Value.str (τ "self") 797), (Value.str (τ "thing") 798)]) 0) #[])
def o475 (P : Params) : Obj := (Obj.mk (Value.type "tuple") none (Data.seq #[] 0) #[])
def o476 (P : Params) : Obj := (Obj.mk .none none (Data.func (FuncData.mk (τ "__init__") (τ "BadNumber.__init__") (Arguments.mk [] [(Arg.mk (τ "self") none ⟨98,17,98,21⟩), (Arg.mk (τ "thing") none ⟨98,23,98,28⟩)] none [] [] none []) (FuncBody.stmts [(Stmt.Assign [(Expr.Attribute (Expr.Name (τ "self") ⟨99,8,99,12⟩) (τ "thing") ⟨99,8,99,18⟩)] (Expr.Name (τ "thing") ⟨99,21,99,26⟩) ⟨99,8,99,26⟩)]) (Scope.mk ScopeKind.function [((τ "self"), NameKind.local), ((τ "thing"), NameKind.local)] Bool.false Bool.false []) 0 [] .none .none .none .none none .none .none 0)) #[])
def o477 (P : Params) : Obj := (Obj.mk (Value.type "code") none (Data.fields (List.toArray [(Value.str (τ "__init__") 794), (Value.str (τ "BadNumber.__init__") 795), (Value.str (τ "/claim/cut.py") 796), (ι 98), (ι 2), (ι 0), (ι 0), (ι 3), (Value.ref 472), (Value.bool Bool.true), (ι 181), (Value.ref 473), .none, (Value.ref 474), (Value.ref 475), (Value.ref 476), (ι 799), (ι 98), (Value.str (τ "/claim/cut.py") 800)])) #[])
def o478 (P : Params) : Obj := (Obj.mk (Value.type "function") none (Data.func (FuncData.mk (τ "__init__") (τ "BadNumber.__init__") (Arguments.mk [] [(Arg.mk (τ "self") none ⟨98,17,98,21⟩), (Arg.mk (τ "thing") none ⟨98,23,98,28⟩)] none [] [] none []) (FuncBody.stmts [(Stmt.Assign [(Expr.Attribute (Expr.Name (τ "self") ⟨99,8,99,12⟩) (τ "thing") ⟨99,8,99,18⟩)] (Expr.Name (τ "thing") ⟨99,21,99,26⟩) ⟨99,8,99,26⟩)]) (Scope.mk ScopeKind.function [((τ "self"), NameKind.local), ((τ "thing"), NameKind.local)] Bool.false Bool.false []) 3 [] .none .none .none (Value.str (τ "lastfaces.errors") 187) none (Value.ref 477) .none 0)) #[])
def o479 (P : Params) : Obj := (Obj.mk (Value.type "tuple") none (Data.seq (List.toArray [(Value.str (τ "thing") 802)]) 0) #[])
def o480 (P : Params) : Obj := (Obj.mk (Value.type "dict") none (Data.dict (List.toArray [(DictEntry.mk (η P (τ "__module__")) (Value.str (τ "__module__") 789) (Value.str (τ "lastfaces.errors") 187)), (DictEntry.mk (η P (τ "__firstlineno__")) (Value.str (τ "__firstlineno__") 793) (Value.int 96 792)), (DictEntry.mk (η P (τ "__init__")) (Value.str (τ "__init__") 801) (Value.ref 478)), (DictEntry.mk (η P (τ "__static_attributes__")) (Value.str (τ "__static_attributes__") 803) (Value.ref 479)), (DictEntry.mk (η P (τ "__doc__")) (Value.str (τ "__doc__") 804) .none)]) 2) #[])
def g46 (P : Params) : List Obj := [o471 P, o472 P, o473 P, o474 P, o475 P, o476 P, o477 P, o478 P, o479 P, o480 P]
def o481 (P : Params) : Obj := (Obj.mk (Value.type "type") none (Data.cls (ClassData.mk (τ "BadNumber") [(Value.ref 24)] [(Value.ref 481), (Value.ref 24), (Value.type "ValueError"), (Value.type "Exception"), (Value.type "BaseException"), (Value.type "object")] 480 (τ "BadNumber") Bool.true [] [] Bool.false none Bool.false)) (List.toArray [(Option.some (Value.ref 465)), none, (Option.some (Value.str (τ "BadNumber") 782)), (Option.some (Value.str (τ "BadNumber") 790)), (Option.some (Value.builtin "ValueError.__new__")), (Option.some (Value.bool Bool.true))]))
def o482 (P : Params) : Obj := (Obj.mk (Value.type "super") none (Data.fields (List.toArray [(Value.ref 481), (Value.ref 481), (Value.ref 481)])) #[])
def o483 (P : Params) : Obj := (Obj.mk (Value.type "builtin_function_or_method") none (Data.fields (List.toArray [(Value.builtin "object.__init_subclass__"), (Value.ref 481)])) #[])
def o484 (P : Params) : Obj := (Obj.mk (Value.type "tuple") none (Data.seq (List.toArray [(Value.ref 24)]) 0) #[])
def o485 (P : Params) : Obj := (Obj.mk (Value.type "builtin_function_or_method") none (Data.fields (List.toArray [(Value.builtin "type.__prepare__"), (Value.type "type")])) #[])
def o486 (P : Params) : Obj := (Obj.mk (Value.type "dict") none (Data.dict (List.toArray [(DictEntry.mk (η P (τ "__module__")) (Value.str (τ "__module__") 814) (Value.str (τ "lastfaces.errors") 187)), (DictEntry.mk (η P (τ "__qualname__")) (Value.str (τ "__qualname__") 816) (Value.str (τ "BadOrder") 815)), (DictEntry.mk (η P (τ "__firstlineno__")) (Value.str (τ "__firstlineno__") 818) (Value.int 100 817)), (DictEntry.mk (η P (τ "__init__")) (Value.str (τ "__init__") 826) (Value.ref 497)), (DictEntry.mk (η P (τ "__static_attributes__")) (Value.str (τ "__static_attributes__") 828) (Value.ref 498))]) 5) #[])
def o487 (P : Params) : Obj := (Obj.mk (Value.type "tuple") none (Data.seq #[] 0) #[])
def o488 (P : Params) : Obj := (Obj.mk .none none (Data.fields (List.toArray [(ι 102), (ι 4), (Value.ref 496)])) #[])
def o489 (P : Params) : Obj := (Obj.mk (Value.type "code") none (Data.fields (List.toArray [(Value.str (τ "BadOrder") 809), (Value.str (τ "BadOrder") 810), (Value.str (τ "/claim/cut.py") 811), (ι 100), (ι 0), (ι 0), (ι 0), (ι 0), (Value.ref 487), (Value.bool Bool.false), (ι 181), (Value.ref 488), .none, .none, .none, .none, (ι 812), (ι 100), (Value.str (τ "/claim/cut.py") 813)])) #[])
def o490 (P : Params) : Obj := (Obj.mk (Value.type "frame") none Data.plain (List.toArray [(Option.some (Value.ref 489)), (Option.some (Value.ref 3)), (Option.some (Value.ref 486)), none, (Option.some (Value.str (τ "lastfaces.errors") 187)), none, (Option.some (Value.ref 0))]))
def g47 (P : Params) : List Obj := [o481 P, o482 P, o483 P, o484 P, o485 P, o486 P, o487 P, o488 P, o489 P, o490 P]
def o491 (P : Params) : Obj := (Obj.mk (Value.type "tuple") none (Data.seq #[] 0) #[])
def o492 (P : Params) : Obj := (Obj.mk .none none (Data.fields #[]) #[])
def o493 (P : Params) : Obj := (Obj.mk (Value.type "tuple") none (Data.seq (List.toArray [(Value.str (τ "self") 822), (Value.str (τ "index") 823)]) 0) #[])
def o494 (P : Params) : Obj := (Obj.mk (Value.type "tuple") none (Data.seq #[] 0) #[])
def o495 (P : Params) : Obj := (Obj.mk .none none (Data.func (FuncData.mk (τ "__init__") (τ "BadOrder.__init__") (Arguments.mk [] [(Arg.mk (τ "self") none ⟨102,17,102,21⟩), (Arg.mk (τ "index") none ⟨102,23,102,28⟩)] none [] [] none []) (FuncBody.stmts [(Stmt.Assign [(Expr.Attribute (Expr.Name (τ "self") ⟨103,8,103,12⟩) (τ "index") ⟨103,8,103,18⟩)] (Expr.Name (τ "index") ⟨103,21,103,26⟩) ⟨103,8,103,26⟩)]) (Scope.mk ScopeKind.function [((τ "self"), NameKind.local), ((τ "index"), NameKind.local)] Bool.false Bool.false []) 0 [] .none .none .none .none none .none .none 0)) #[])
def o496 (P : Params) : Obj := (Obj.mk (Value.type "code") none (Data.fields (List.toArray [(Value.str (τ "__init__") 819), (Value.str (τ "BadOrder.__init__") 820), (Value.str (τ "/claim/cut.py") 821), (ι 102), (ι 2), (ι 0), (ι 0), (ι 3), (Value.ref 491), (Value.bool Bool.true), (ι 181), (Value.ref 492), .none, (Value.ref 493), (Value.ref 494), (Value.ref 495), (ι 824), (ι 102), (Value.str (τ "/claim/cut.py") 825)])) #[])
def o497 (P : Params) : Obj := (Obj.mk (Value.type "function") none (Data.func (FuncData.mk (τ "__init__") (τ "BadOrder.__init__") (Arguments.mk [] [(Arg.mk (τ "self") none ⟨102,17,102,21⟩), (Arg.mk (τ "index") none ⟨102,23,102,28⟩)] none [] [] none []) (FuncBody.stmts [(Stmt.Assign [(Expr.Attribute (Expr.Name (τ "self") ⟨103,8,103,12⟩) (τ "index") ⟨103,8,103,18⟩)] (Expr.Name (τ "index") ⟨103,21,103,26⟩) ⟨103,8,103,26⟩)]) (Scope.mk ScopeKind.function [((τ "self"), NameKind.local), ((τ "index"), NameKind.local)] Bool.false Bool.false []) 3 [] .none .none .none (Value.str (τ "lastfaces.errors") 187) none (Value.ref 496) .none 0)) #[])
def o498 (P : Params) : Obj := (Obj.mk (Value.type "tuple") none (Data.seq (List.toArray [(Value.str (τ "index") 827)]) 0) #[])
def o499 (P : Params) : Obj := (Obj.mk (Value.type "dict") none (Data.dict (List.toArray [(DictEntry.mk (η P (τ "__module__")) (Value.str (τ "__module__") 814) (Value.str (τ "lastfaces.errors") 187)), (DictEntry.mk (η P (τ "__firstlineno__")) (Value.str (τ "__firstlineno__") 818) (Value.int 100 817)), (DictEntry.mk (η P (τ "__init__")) (Value.str (τ "__init__") 826) (Value.ref 497)), (DictEntry.mk (η P (τ "__static_attributes__")) (Value.str (τ "__static_attributes__") 828) (Value.ref 498)), (DictEntry.mk (η P (τ "__doc__")) (Value.str (τ "__doc__") 829) .none)]) 2) #[])
def o500 (P : Params) : Obj := (Obj.mk (Value.type "type") none (Data.cls (ClassData.mk (τ "BadOrder") [(Value.ref 24)] [(Value.ref 500), (Value.ref 24), (Value.type "ValueError"), (Value.type "Exception"), (Value.type "BaseException"), (Value.type "object")] 499 (τ "BadOrder") Bool.true [] [] Bool.false none Bool.false)) (List.toArray [(Option.some (Value.ref 484)), none, (Option.some (Value.str (τ "BadOrder") 807)), (Option.some (Value.str (τ "BadOrder") 815)), (Option.some (Value.builtin "ValueError.__new__")), (Option.some (Value.bool Bool.true))]))
def g48 (P : Params) : List Obj := [o491 P, o492 P, o493 P, o494 P, o495 P, o496 P, o497 P, o498 P, o499 P, o500 P]
def o501 (P : Params) : Obj := (Obj.mk (Value.type "super") none (Data.fields (List.toArray [(Value.ref 500), (Value.ref 500), (Value.ref 500)])) #[])
def o502 (P : Params) : Obj := (Obj.mk (Value.type "builtin_function_or_method") none (Data.fields (List.toArray [(Value.builtin "object.__init_subclass__"), (Value.ref 500)])) #[])
def o503 (P : Params) : Obj := (Obj.mk (Value.type "tuple") none (Data.seq (List.toArray [(Value.ref 24)]) 0) #[])
def o504 (P : Params) : Obj := (Obj.mk (Value.type "builtin_function_or_method") none (Data.fields (List.toArray [(Value.builtin "type.__prepare__"), (Value.type "type")])) #[])
def o505 (P : Params) : Obj := (Obj.mk (Value.type "dict") none (Data.dict (List.toArray [(DictEntry.mk (η P (τ "__module__")) (Value.str (τ "__module__") 839) (Value.str (τ "lastfaces.errors") 187)), (DictEntry.mk (η P (τ "__qualname__")) (Value.str (τ "__qualname__") 841) (Value.str (τ "BadPeople") 840)), (DictEntry.mk (η P (τ "__firstlineno__")) (Value.str (τ "__firstlineno__") 843) (Value.int 104 842)), (DictEntry.mk (η P (τ "__init__")) (Value.str (τ "__init__") 851) (Value.ref 516)), (DictEntry.mk (η P (τ "__static_attributes__")) (Value.str (τ "__static_attributes__") 853) (Value.ref 517))]) 5) #[])
def o506 (P : Params) : Obj := (Obj.mk (Value.type "tuple") none (Data.seq #[] 0) #[])
def o507 (P : Params) : Obj := (Obj.mk .none none (Data.fields (List.toArray [(ι 106), (ι 4), (Value.ref 515)])) #[])
def o508 (P : Params) : Obj := (Obj.mk (Value.type "code") none (Data.fields (List.toArray [(Value.str (τ "BadPeople") 834), (Value.str (τ "BadPeople") 835), (Value.str (τ "/claim/cut.py") 836), (ι 104), (ι 0), (ι 0), (ι 0), (ι 0), (Value.ref 506), (Value.bool Bool.false), (ι 181), (Value.ref 507), .none, .none, .none, .none, (ι 837), (ι 104), (Value.str (τ "/claim/cut.py") 838)])) #[])
def o509 (P : Params) : Obj := (Obj.mk (Value.type "frame") none Data.plain (List.toArray [(Option.some (Value.ref 508)), (Option.some (Value.ref 3)), (Option.some (Value.ref 505)), none, (Option.some (Value.str (τ "lastfaces.errors") 187)), none, (Option.some (Value.ref 0))]))
def o510 (P : Params) : Obj := (Obj.mk (Value.type "tuple") none (Data.seq #[] 0) #[])
def g49 (P : Params) : List Obj := [o501 P, o502 P, o503 P, o504 P, o505 P, o506 P, o507 P, o508 P, o509 P, o510 P]
def o511 (P : Params) : Obj := (Obj.mk .none none (Data.fields #[]) #[])
def o512 (P : Params) : Obj := (Obj.mk (Value.type "tuple") none (Data.seq (List.toArray [(Value.str (τ "self") 847), (Value.str (τ "index") 848)]) 0) #[])
def o513 (P : Params) : Obj := (Obj.mk (Value.type "tuple") none (Data.seq #[] 0) #[])
def o514 (P : Params) : Obj := (Obj.mk .none none (Data.func (FuncData.mk (τ "__init__") (τ "BadPeople.__init__") (Arguments.mk [] [(Arg.mk (τ "self") none ⟨106,17,106,21⟩), (Arg.mk (τ "index") none ⟨106,23,106,28⟩)] none [] [] none []) (FuncBody.stmts [(Stmt.Assign [(Expr.Attribute (Expr.Name (τ "self") ⟨107,8,107,12⟩) (τ "index") ⟨107,8,107,18⟩)] (Expr.Name (τ "index") ⟨107,21,107,26⟩) ⟨107,8,107,26⟩)]) (Scope.mk ScopeKind.function [((τ "self"), NameKind.local), ((τ "index"), NameKind.local)] Bool.false Bool.false []) 0 [] .none .none .none .none none .none .none 0)) #[])
def o515 (P : Params) : Obj := (Obj.mk (Value.type "code") none (Data.fields (List.toArray [(Value.str (τ "__init__") 844), (Value.str (τ "BadPeople.__init__") 845), (Value.str (τ "/claim/cut.py") 846), (ι 106), (ι 2), (ι 0), (ι 0), (ι 3), (Value.ref 510), (Value.bool Bool.true), (ι 181), (Value.ref 511), .none, (Value.ref 512), (Value.ref 513), (Value.ref 514), (ι 849), (ι 106), (Value.str (τ "/claim/cut.py") 850)])) #[])
def o516 (P : Params) : Obj := (Obj.mk (Value.type "function") none (Data.func (FuncData.mk (τ "__init__") (τ "BadPeople.__init__") (Arguments.mk [] [(Arg.mk (τ "self") none ⟨106,17,106,21⟩), (Arg.mk (τ "index") none ⟨106,23,106,28⟩)] none [] [] none []) (FuncBody.stmts [(Stmt.Assign [(Expr.Attribute (Expr.Name (τ "self") ⟨107,8,107,12⟩) (τ "index") ⟨107,8,107,18⟩)] (Expr.Name (τ "index") ⟨107,21,107,26⟩) ⟨107,8,107,26⟩)]) (Scope.mk ScopeKind.function [((τ "self"), NameKind.local), ((τ "index"), NameKind.local)] Bool.false Bool.false []) 3 [] .none .none .none (Value.str (τ "lastfaces.errors") 187) none (Value.ref 515) .none 0)) #[])
def o517 (P : Params) : Obj := (Obj.mk (Value.type "tuple") none (Data.seq (List.toArray [(Value.str (τ "index") 852)]) 0) #[])
def o518 (P : Params) : Obj := (Obj.mk (Value.type "dict") none (Data.dict (List.toArray [(DictEntry.mk (η P (τ "__module__")) (Value.str (τ "__module__") 839) (Value.str (τ "lastfaces.errors") 187)), (DictEntry.mk (η P (τ "__firstlineno__")) (Value.str (τ "__firstlineno__") 843) (Value.int 104 842)), (DictEntry.mk (η P (τ "__init__")) (Value.str (τ "__init__") 851) (Value.ref 516)), (DictEntry.mk (η P (τ "__static_attributes__")) (Value.str (τ "__static_attributes__") 853) (Value.ref 517)), (DictEntry.mk (η P (τ "__doc__")) (Value.str (τ "__doc__") 854) .none)]) 2) #[])
def o519 (P : Params) : Obj := (Obj.mk (Value.type "type") none (Data.cls (ClassData.mk (τ "BadPeople") [(Value.ref 24)] [(Value.ref 519), (Value.ref 24), (Value.type "ValueError"), (Value.type "Exception"), (Value.type "BaseException"), (Value.type "object")] 518 (τ "BadPeople") Bool.true [] [] Bool.false none Bool.false)) (List.toArray [(Option.some (Value.ref 503)), none, (Option.some (Value.str (τ "BadPeople") 832)), (Option.some (Value.str (τ "BadPeople") 840)), (Option.some (Value.builtin "ValueError.__new__")), (Option.some (Value.bool Bool.true))]))
def o520 (P : Params) : Obj := (Obj.mk (Value.type "super") none (Data.fields (List.toArray [(Value.ref 519), (Value.ref 519), (Value.ref 519)])) #[])
def g50 (P : Params) : List Obj := [o511 P, o512 P, o513 P, o514 P, o515 P, o516 P, o517 P, o518 P, o519 P, o520 P]
def o521 (P : Params) : Obj := (Obj.mk (Value.type "builtin_function_or_method") none (Data.fields (List.toArray [(Value.builtin "object.__init_subclass__"), (Value.ref 519)])) #[])
def o522 (P : Params) : Obj := (Obj.mk (Value.type "tuple") none (Data.seq (List.toArray [(Value.ref 24)]) 0) #[])
def o523 (P : Params) : Obj := (Obj.mk (Value.type "builtin_function_or_method") none (Data.fields (List.toArray [(Value.builtin "type.__prepare__"), (Value.type "type")])) #[])
def o524 (P : Params) : Obj := (Obj.mk (Value.type "dict") none (Data.dict (List.toArray [(DictEntry.mk (η P (τ "__module__")) (Value.str (τ "__module__") 864) (Value.str (τ "lastfaces.errors") 187)), (DictEntry.mk (η P (τ "__qualname__")) (Value.str (τ "__qualname__") 866) (Value.str (τ "BadPerson") 865)), (DictEntry.mk (η P (τ "__firstlineno__")) (Value.str (τ "__firstlineno__") 868) (Value.int 108 867)), (DictEntry.mk (η P (τ "__init__")) (Value.str (τ "__init__") 876) (Value.ref 535)), (DictEntry.mk (η P (τ "__static_attributes__")) (Value.str (τ "__static_attributes__") 878) (Value.ref 536))]) 5) #[])
def o525 (P : Params) : Obj := (Obj.mk (Value.type "tuple") none (Data.seq #[] 0) #[])
def o526 (P : Params) : Obj := (Obj.mk .none none (Data.fields (List.toArray [(ι 110), (ι 4), (Value.ref 534)])) #[])
def o527 (P : Params) : Obj := (Obj.mk (Value.type "code") none (Data.fields (List.toArray [(Value.str (τ "BadPerson") 859), (Value.str (τ "BadPerson") 860), (Value.str (τ "/claim/cut.py") 861), (ι 108), (ι 0), (ι 0), (ι 0), (ι 0), (Value.ref 525), (Value.bool Bool.false), (ι 181), (Value.ref 526), .none, .none, .none, .none, (ι 862), (ι 108), (Value.str (τ "/claim/cut.py") 863)])) #[])
def o528 (P : Params) : Obj := (Obj.mk (Value.type "frame") none Data.plain (List.toArray [(Option.some (Value.ref 527)), (Option.some (Value.ref 3)), (Option.some (Value.ref 524)), none, (Option.some (Value.str (τ "lastfaces.errors") 187)), none, (Option.some (Value.ref 0))]))
def o529 (P : Params) : Obj := (Obj.mk (Value.type "tuple") none (Data.seq #[] 0) #[])
def o530 (P : Params) : Obj := (Obj.mk .none none (Data.fields #[]) #[])
def g51 (P : Params) : List Obj := [o521 P, o522 P, o523 P, o524 P, o525 P, o526 P, o527 P, o528 P, o529 P, o530 P]
def o531 (P : Params) : Obj := (Obj.mk (Value.type "tuple") none (Data.seq (List.toArray [(Value.str (τ "self") 872), (Value.str (τ "thing") 873)]) 0) #[])
def o532 (P : Params) : Obj := (Obj.mk (Value.type "tuple") none (Data.seq #[] 0) #[])
def o533 (P : Params) : Obj := (Obj.mk .none none (Data.func (FuncData.mk (τ "__init__") (τ "BadPerson.__init__") (Arguments.mk [] [(Arg.mk (τ "self") none ⟨110,17,110,21⟩), (Arg.mk (τ "thing") none ⟨110,23,110,28⟩)] none [] [] none []) (FuncBody.stmts [(Stmt.Assign [(Expr.Attribute (Expr.Name (τ "self") ⟨111,8,111,12⟩) (τ "thing") ⟨111,8,111,18⟩)] (Expr.Name (τ "thing") ⟨111,21,111,26⟩) ⟨111,8,111,26⟩)]) (Scope.mk ScopeKind.function [((τ "self"), NameKind.local), ((τ "thing"), NameKind.local)] Bool.false Bool.false []) 0 [] .none .none .none .none none .none .none 0)) #[])
def o534 (P : Params) : Obj := (Obj.mk (Value.type "code") none (Data.fields (List.toArray [(Value.str (τ "__init__") 869), (Value.str (τ "BadPerson.__init__") 870), (Value.str (τ "/claim/cut.py") 871), (ι 110), (ι 2), (ι 0), (ι 0), (ι 3), (Value.ref 529), (Value.bool Bool.true), (ι 181), (Value.ref 530), .none, (Value.ref 531), (Value.ref 532), (Value.ref 533), (ι 874), (ι 110), (Value.str (τ "/claim/cut.py") 875)])) #[])
def o535 (P : Params) : Obj := (Obj.mk (Value.type "function") none (Data.func (FuncData.mk (τ "__init__") (τ "BadPerson.__init__") (Arguments.mk [] [(Arg.mk (τ "self") none ⟨110,17,110,21⟩), (Arg.mk (τ "thing") none ⟨110,23,110,28⟩)] none [] [] none []) (FuncBody.stmts [(Stmt.Assign [(Expr.Attribute (Expr.Name (τ "self") ⟨111,8,111,12⟩) (τ "thing") ⟨111,8,111,18⟩)] (Expr.Name (τ "thing") ⟨111,21,111,26⟩) ⟨111,8,111,26⟩)]) (Scope.mk ScopeKind.function [((τ "self"), NameKind.local), ((τ "thing"), NameKind.local)] Bool.false Bool.false []) 3 [] .none .none .none (Value.str (τ "lastfaces.errors") 187) none (Value.ref 534) .none 0)) #[])
def o536 (P : Params) : Obj := (Obj.mk (Value.type "tuple") none (Data.seq (List.toArray [(Value.str (τ "thing") 877)]) 0) #[])
def o537 (P : Params) : Obj := (Obj.mk (Value.type "dict") none (Data.dict (List.toArray [(DictEntry.mk (η P (τ "__module__")) (Value.str (τ "__module__") 864) (Value.str (τ "lastfaces.errors") 187)), (DictEntry.mk (η P (τ "__firstlineno__")) (Value.str (τ "__firstlineno__") 868) (Value.int 108 867)), (DictEntry.mk (η P (τ "__init__")) (Value.str (τ "__init__") 876) (Value.ref 535)), (DictEntry.mk (η P (τ "__static_attributes__")) (Value.str (τ "__static_attributes__") 878) (Value.ref 536)), (DictEntry.mk (η P (τ "__doc__")) (Value.str (τ "__doc__") 879) .none)]) 2) #[])
def o538 (P : Params) : Obj := (Obj.mk (Value.type "type") none (Data.cls (ClassData.mk (τ "BadPerson") [(Value.ref 24)] [(Value.ref 538), (Value.ref 24), (Value.type "ValueError"), (Value.type "Exception"), (Value.type "BaseException"), (Value.type "object")] 537 (τ "BadPerson") Bool.true [] [] Bool.false none Bool.false)) (List.toArray [(Option.some (Value.ref 522)), none, (Option.some (Value.str (τ "BadPerson") 857)), (Option.some (Value.str (τ "BadPerson") 865)), (Option.some (Value.builtin "ValueError.__new__")), (Option.some (Value.bool Bool.true))]))
def o539 (P : Params) : Obj := (Obj.mk (Value.type "super") none (Data.fields (List.toArray [(Value.ref 538), (Value.ref 538), (Value.ref 538)])) #[])
def o540 (P : Params) : Obj := (Obj.mk (Value.type "builtin_function_or_method") none (Data.fields (List.toArray [(Value.builtin "object.__init_subclass__"), (Value.ref 538)])) #[])
def g52 (P : Params) : List Obj := [o531 P, o532 P, o533 P, o534 P, o535 P, o536 P, o537 P, o538 P, o539 P, o540 P]
def o541 (P : Params) : Obj := (Obj.mk (Value.type "tuple") none (Data.seq (List.toArray [(Value.ref 24)]) 0) #[])
def o542 (P : Params) : Obj := (Obj.mk (Value.type "builtin_function_or_method") none (Data.fields (List.toArray [(Value.builtin "type.__prepare__"), (Value.type "type")])) #[])
def o543 (P : Params) : Obj := (Obj.mk (Value.type "dict") none (Data.dict (List.toArray [(DictEntry.mk (η P (τ "__module__")) (Value.str (τ "__module__") 889) (Value.str (τ "lastfaces.errors") 187)), (DictEntry.mk (η P (τ "__qualname__")) (Value.str (τ "__qualname__") 891) (Value.str (τ "BadPiece") 890)), (DictEntry.mk (η P (τ "__firstlineno__")) (Value.str (τ "__firstlineno__") 893) (Value.int 112 892)), (DictEntry.mk (η P (τ "__init__")) (Value.str (τ "__init__") 901) (Value.ref 554)), (DictEntry.mk (η P (τ "__static_attributes__")) (Value.str (τ "__static_attributes__") 903) (Value.ref 555))]) 5) #[])
def o544 (P : Params) : Obj := (Obj.mk (Value.type "tuple") none (Data.seq #[] 0) #[])
def o545 (P : Params) : Obj := (Obj.mk .none none (Data.fields (List.toArray [(ι 114), (ι 4), (Value.ref 553)])) #[])
def o546 (P : Params) : Obj := (Obj.mk (Value.type "code") none (Data.fields (List.toArray [(Value.str (τ "BadPiece") 884), (Value.str (τ "BadPiece") 885), (Value.str (τ "/claim/cut.py") 886), (ι 112), (ι 0), (ι 0), (ι 0), (ι 0), (Value.ref 544), (Value.bool Bool.false), (ι 181), (Value.ref 545), .none, .none, .none, .none, (ι 887), (ι 112), (Value.str (τ "/claim/cut.py") 888)])) #[])
def o547 (P : Params) : Obj := (Obj.mk (Value.type "frame") none Data.plain (List.toArray [(Option.some (Value.ref 546)), (Option.some (Value.ref 3)), (Option.some (Value.ref 543)), none, (Option.some (Value.str (τ "lastfaces.errors") 187)), none, (Option.some (Value.ref 0))]))
def o548 (P : Params) : Obj := (Obj.mk (Value.type "tuple") none (Data.seq #[] 0) #[])
def o549 (P : Params) : Obj := (Obj.mk .none none (Data.fields #[]) #[])
def o550 (P : Params) : Obj := (Obj.mk (Value.type "tuple") none (Data.seq (List.toArray [(Value.str (τ "self") 897), (Value.str (τ "thing") 898)]) 0) #[])
def g53 (P : Params) : List Obj := [o541 P, o542 P, o543 P, o544 P, o545 P, o546 P, o547 P, o548 P, o549 P, o550 P]
def o551 (P : Params) : Obj := (Obj.mk (Value.type "tuple") none (Data.seq #[] 0) #[])
def o552 (P : Params) : Obj := (Obj.mk .none none (Data.func (FuncData.mk (τ "__init__") (τ "BadPiece.__init__") (Arguments.mk [] [(Arg.mk (τ "self") none ⟨114,17,114,21⟩), (Arg.mk (τ "thing") none ⟨114,23,114,28⟩)] none [] [] none []) (FuncBody.stmts [(Stmt.Assign [(Expr.Attribute (Expr.Name (τ "self") ⟨115,8,115,12⟩) (τ "thing") ⟨115,8,115,18⟩)] (Expr.Name (τ "thing") ⟨115,21,115,26⟩) ⟨115,8,115,26⟩)]) (Scope.mk ScopeKind.function [((τ "self"), NameKind.local), ((τ "thing"), NameKind.local)] Bool.false Bool.false []) 0 [] .none .none .none .none none .none .none 0)) #[])
def o553 (P : Params) : Obj := (Obj.mk (Value.type "code") none (Data.fields (List.toArray [(Value.str (τ "__init__") 894), (Value.str (τ "BadPiece.__init__") 895), (Value.str (τ "/claim/cut.py") 896), (ι 114), (ι 2), (ι 0), (ι 0), (ι 3), (Value.ref 548), (Value.bool Bool.true), (ι 181), (Value.ref 549), .none, (Value.ref 550), (Value.ref 551), (Value.ref 552), (ι 899), (ι 114), (Value.str (τ "/claim/cut.py") 900)])) #[])
def o554 (P : Params) : Obj := (Obj.mk (Value.type "function") none (Data.func (FuncData.mk (τ "__init__") (τ "BadPiece.__init__") (Arguments.mk [] [(Arg.mk (τ "self") none ⟨114,17,114,21⟩), (Arg.mk (τ "thing") none ⟨114,23,114,28⟩)] none [] [] none []) (FuncBody.stmts [(Stmt.Assign [(Expr.Attribute (Expr.Name (τ "self") ⟨115,8,115,12⟩) (τ "thing") ⟨115,8,115,18⟩)] (Expr.Name (τ "thing") ⟨115,21,115,26⟩) ⟨115,8,115,26⟩)]) (Scope.mk ScopeKind.function [((τ "self"), NameKind.local), ((τ "thing"), NameKind.local)] Bool.false Bool.false []) 3 [] .none .none .none (Value.str (τ "lastfaces.errors") 187) none (Value.ref 553) .none 0)) #[])
def o555 (P : Params) : Obj := (Obj.mk (Value.type "tuple") none (Data.seq (List.toArray [(Value.str (τ "thing") 902)]) 0) #[])
def o556 (P : Params) : Obj := (Obj.mk (Value.type "dict") none (Data.dict (List.toArray [(DictEntry.mk (η P (τ "__module__")) (Value.str (τ "__module__") 889) (Value.str (τ "lastfaces.errors") 187)), (DictEntry.mk (η P (τ "__firstlineno__")) (Value.str (τ "__firstlineno__") 893) (Value.int 112 892)), (DictEntry.mk (η P (τ "__init__")) (Value.str (τ "__init__") 901) (Value.ref 554)), (DictEntry.mk (η P (τ "__static_attributes__")) (Value.str (τ "__static_attributes__") 903) (Value.ref 555)), (DictEntry.mk (η P (τ "__doc__")) (Value.str (τ "__doc__") 904) .none)]) 2) #[])
def o557 (P : Params) : Obj := (Obj.mk (Value.type "type") none (Data.cls (ClassData.mk (τ "BadPiece") [(Value.ref 24)] [(Value.ref 557), (Value.ref 24), (Value.type "ValueError"), (Value.type "Exception"), (Value.type "BaseException"), (Value.type "object")] 556 (τ "BadPiece") Bool.true [] [] Bool.false none Bool.false)) (List.toArray [(Option.some (Value.ref 541)), none, (Option.some (Value.str (τ "BadPiece") 882)), (Option.some (Value.str (τ "BadPiece") 890)), (Option.some (Value.builtin "ValueError.__new__")), (Option.some (Value.bool Bool.true))]))
def o558 (P : Params) : Obj := (Obj.mk (Value.type "super") none (Data.fields (List.toArray [(Value.ref 557), (Value.ref 557), (Value.ref 557)])) #[])
def o559 (P : Params) : Obj := (Obj.mk (Value.type "builtin_function_or_method") none (Data.fields (List.toArray [(Value.builtin "object.__init_subclass__"), (Value.ref 557)])) #[])
def o560 (P : Params) : Obj := (Obj.mk (Value.type "tuple") none (Data.seq (List.toArray [(Value.ref 24)]) 0) #[])
def g54 (P : Params) : List Obj := [o551 P, o552 P, o553 P, o554 P, o555 P, o556 P, o557 P, o558 P, o559 P, o560 P]
def o561 (P : Params) : Obj := (Obj.mk (Value.type "builtin_function_or_method") none (Data.fields (List.toArray [(Value.builtin "type.__prepare__"), (Value.type "type")])) #[])
def o562 (P : Params) : Obj := (Obj.mk (Value.type "dict") none (Data.dict (List.toArray [(DictEntry.mk (η P (τ "__module__")) (Value.str (τ "__module__") 914) (Value.str (τ "lastfaces.errors") 187)), (DictEntry.mk (η P (τ "__qualname__")) (Value.str (τ "__qualname__") 916) (Value.str (τ "BadPlacing") 915)), (DictEntry.mk (η P (τ "__firstlineno__")) (Value.str (τ "__firstlineno__") 918) (Value.int 116 917)), (DictEntry.mk (η P (τ "__init__")) (Value.str (τ "__init__") 926) (Value.ref 573)), (DictEntry.mk (η P (τ "__static_attributes__")) (Value.str (τ "__static_attributes__") 928) (Value.ref 574))]) 5) #[])
def o563 (P : Params) : Obj := (Obj.mk (Value.type "tuple") none (Data.seq #[] 0) #[])
def o564 (P : Params) : Obj := (Obj.mk .none none (Data.fields (List.toArray [(ι 118), (ι 4), (Value.ref 572)])) #[])
def o565 (P : Params) : Obj := (Obj.mk (Value.type "code") none (Data.fields (List.toArray [(Value.str (τ "BadPlacing") 909), (Value.str (τ "BadPlacing") 910), (Value.str (τ "/claim/cut.py") 911), (ι 116), (ι 0), (ι 0), (ι 0), (ι 0), (Value.ref 563), (Value.bool Bool.false), (ι 181), (Value.ref 564), .none, .none, .none, .none, (ι 912), (ι 116), (Value.str (τ "/claim/cut.py") 913)])) #[])
def o566 (P : Params) : Obj := (Obj.mk (Value.type "frame") none Data.plain (List.toArray [(Option.some (Value.ref 565)), (Option.some (Value.ref 3)), (Option.some (Value.ref 562)), none, (Option.some (Value.str (τ "lastfaces.errors") 187)), none, (Option.some (Value.ref 0))]))
def o567 (P : Params) : Obj := (Obj.mk (Value.type "tuple") none (Data.seq #[] 0) #[])
def o568 (P : Params) : Obj := (Obj.mk .none none (Data.fields #[]) #[])
def o569 (P : Params) : Obj := (Obj.mk (Value.type "tuple") none (Data.seq (List.toArray [(Value.str (τ "self") 922), (Value.str (τ "thing") 923)]) 0) #[])
def o570 (P : Params) : Obj := (Obj.mk (Value.type "tuple") none (Data.seq #[] 0) #[])
def g55 (P : Params) : List Obj := [o561 P, o562 P, o563 P, o564 P, o565 P, o566 P, o567 P, o568 P, o569 P, o570 P]
def o571 (P : Params) : Obj := (Obj.mk .none none (Data.func (FuncData.mk (τ "__init__") (τ "BadPlacing.__init__") (Arguments.mk [] [(Arg.mk (τ "self") none ⟨118,17,118,21⟩), (Arg.mk (τ "thing") none ⟨118,23,118,28⟩)] none [] [] none []) (FuncBody.stmts [(Stmt.Assign [(Expr.Attribute (Expr.Name (τ "self") ⟨119,8,119,12⟩) (τ "thing") ⟨119,8,119,18⟩)] (Expr.Name (τ "thing") ⟨119,21,119,26⟩) ⟨119,8,119,26⟩)]) (Scope.mk ScopeKind.function [((τ "self"), NameKind.local), ((τ "thing"), NameKind.local)] Bool.false Bool.false []) 0 [] .none .none .none .none none .none .none 0)) #[])
def o572 (P : Params) : Obj := (Obj.mk (Value.type "code") none (Data.fields (List.toArray [(Value.str (τ "__init__") 919), (Value.str (τ "BadPlacing.__init__") 920), (Value.str (τ "/claim/cut.py") 921), (ι 118), (ι 2), (ι 0), (ι 0), (ι 3), (Value.ref 567), (Value.bool Bool.true), (ι 181), (Value.ref 568), .none, (Value.ref 569), (Value.ref 570), (Value.ref 571), (ι 924), (ι 118), (Value.str (τ "/claim/cut.py") 925)])) #[])
def o573 (P : Params) : Obj := (Obj.mk (Value.type "function") none (Data.func (FuncData.mk (τ "__init__") (τ "BadPlacing.__init__") (Arguments.mk [] [(Arg.mk (τ "self") none ⟨118,17,118,21⟩), (Arg.mk (τ "thing") none ⟨118,23,118,28⟩)] none [] [] none []) (FuncBody.stmts [(Stmt.Assign [(Expr.Attribute (Expr.Name (τ "self") ⟨119,8,119,12⟩) (τ "thing") ⟨119,8,119,18⟩)] (Expr.Name (τ "thing") ⟨119,21,119,26⟩) ⟨119,8,119,26⟩)]) (Scope.mk ScopeKind.function [((τ "self"), NameKind.local), ((τ "thing"), NameKind.local)] Bool.false Bool.false []) 3 [] .none .none .none (Value.str (τ "lastfaces.errors") 187) none (Value.ref 572) .none 0)) #[])
def o574 (P : Params) : Obj := (Obj.mk (Value.type "tuple") none (Data.seq (List.toArray [(Value.str (τ "thing") 927)]) 0) #[])
def o575 (P : Params) : Obj := (Obj.mk (Value.type "dict") none (Data.dict (List.toArray [(DictEntry.mk (η P (τ "__module__")) (Value.str (τ "__module__") 914) (Value.str (τ "lastfaces.errors") 187)), (DictEntry.mk (η P (τ "__firstlineno__")) (Value.str (τ "__firstlineno__") 918) (Value.int 116 917)), (DictEntry.mk (η P (τ "__init__")) (Value.str (τ "__init__") 926) (Value.ref 573)), (DictEntry.mk (η P (τ "__static_attributes__")) (Value.str (τ "__static_attributes__") 928) (Value.ref 574)), (DictEntry.mk (η P (τ "__doc__")) (Value.str (τ "__doc__") 929) .none)]) 2) #[])
def o576 (P : Params) : Obj := (Obj.mk (Value.type "type") none (Data.cls (ClassData.mk (τ "BadPlacing") [(Value.ref 24)] [(Value.ref 576), (Value.ref 24), (Value.type "ValueError"), (Value.type "Exception"), (Value.type "BaseException"), (Value.type "object")] 575 (τ "BadPlacing") Bool.true [] [] Bool.false none Bool.false)) (List.toArray [(Option.some (Value.ref 560)), none, (Option.some (Value.str (τ "BadPlacing") 907)), (Option.some (Value.str (τ "BadPlacing") 915)), (Option.some (Value.builtin "ValueError.__new__")), (Option.some (Value.bool Bool.true))]))
def o577 (P : Params) : Obj := (Obj.mk (Value.type "super") none (Data.fields (List.toArray [(Value.ref 576), (Value.ref 576), (Value.ref 576)])) #[])
def o578 (P : Params) : Obj := (Obj.mk (Value.type "builtin_function_or_method") none (Data.fields (List.toArray [(Value.builtin "object.__init_subclass__"), (Value.ref 576)])) #[])
def o579 (P : Params) : Obj := (Obj.mk (Value.type "tuple") none (Data.seq (List.toArray [(Value.ref 24)]) 0) #[])
def o580 (P : Params) : Obj := (Obj.mk (Value.type "builtin_function_or_method") none (Data.fields (List.toArray [(Value.builtin "type.__prepare__"), (Value.type "type")])) #[])
def g56 (P : Params) : List Obj := [o571 P, o572 P, o573 P, o574 P, o575 P, o576 P, o577 P, o578 P, o579 P, o580 P]
def o581 (P : Params) : Obj := (Obj.mk (Value.type "dict") none (Data.dict (List.toArray [(DictEntry.mk (η P (τ "__module__")) (Value.str (τ "__module__") 939) (Value.str (τ "lastfaces.errors") 187)), (DictEntry.mk (η P (τ "__qualname__")) (Value.str (τ "__qualname__") 941) (Value.str (τ "BadQuestion") 940)), (DictEntry.mk (η P (τ "__firstlineno__")) (Value.str (τ "__firstlineno__") 943) (Value.int 120 942)), (DictEntry.mk (η P (τ "__init__")) (Value.str (τ "__init__") 951) (Value.ref 592)), (DictEntry.mk (η P (τ "__static_attributes__")) (Value.str (τ "__static_attributes__") 953) (Value.ref 593))]) 5) #[])
def o582 (P : Params) : Obj := (Obj.mk (Value.type "tuple") none (Data.seq #[] 0) #[])
def o583 (P : Params) : Obj := (Obj.mk .none none (Data.fields (List.toArray [(ι 122), (ι 4), (Value.ref 591)])) #[])
def o584 (P : Params) : Obj := (Obj.mk (Value.type "code") none (Data.fields (List.toArray [(Value.str (τ "BadQuestion") 934), (Value.str (τ "BadQuestion") 935), (Value.str (τ "/claim/cut.py") 936), (ι 120), (ι 0), (ι 0), (ι 0), (ι 0), (Value.ref 582), (Value.bool Bool.false), (ι 181), (Value.ref 583), .none, .none, .none, .none, (ι 937), (ι 120), (Value.str (τ "/claim/cut.py") 938)])) #[])
def o585 (P : Params) : Obj := (Obj.mk (Value.type "frame") none Data.plain (List.toArray [(Option.some (Value.ref 584)), (Option.some (Value.ref 3)), (Option.some (Value.ref 581)), none, (Option.some (Value.str (τ "lastfaces.errors") 187)), none, (Option.some (Value.ref 0))]))
def o586 (P : Params) : Obj := (Obj.mk (Value.type "tuple") none (Data.seq #[] 0) #[])
def o587 (P : Params) : Obj := (Obj.mk .none none (Data.fields #[]) #[])
def o588 (P : Params) : Obj := (Obj.mk (Value.type "tuple") none (Data.seq (List.toArray [(Value.str (τ "self") 947), (Value.str (τ "thing") 948)]) 0) #[])
def o589 (P : Params) : Obj := (Obj.mk (Value.type "tuple") none (Data.seq #[] 0) #[])
def o590 (P : Params) : Obj := (Obj.mk .none none (Data.func (FuncData.mk (τ "__init__") (τ "BadQuestion.__init__") (Arguments.mk [] [(Arg.mk (τ "self") none ⟨122,17,122,21⟩), (Arg.mk (τ "thing") none ⟨122,23,122,28⟩)] none [] [] none []) (FuncBody.stmts [(Stmt.Assign [(Expr.Attribute (Expr.Name (τ "self") ⟨123,8,123,12⟩) (τ "thing") ⟨123,8,123,18⟩)] (Expr.Name (τ "thing") ⟨123,21,123,26⟩) ⟨123,8,123,26⟩)]) (Scope.mk ScopeKind.function [((τ "self"), NameKind.local), ((τ "thing"), NameKind.local)] Bool.false Bool.false []) 0 [] .none .none .none .none none .none .none 0)) #[])
def g57 (P : Params) : List Obj := [o581 P, o582 P, o583 P, o584 P, o585 P, o586 P, o587 P, o588 P, o589 P, o590 P]
def o591 (P : Params) : Obj := (Obj.mk (Value.type "code") none (Data.fields (List.toArray [(Value.str (τ "__init__") 944), (Value.str (τ "BadQuestion.__init__") 945), (Value.str (τ "/claim/cut.py") 946), (ι 122), (ι 2), (ι 0), (ι 0), (ι 3), (Value.ref 586), (Value.bool Bool.true), (ι 181), (Value.ref 587), .none, (Value.ref 588), (Value.ref 589), (Value.ref 590), (ι 949), (ι 122), (Value.str (τ "/claim/cut.py") 950)])) #[])
def o592 (P : Params) : Obj := (Obj.mk (Value.type "function") none (Data.func (FuncData.mk (τ "__init__") (τ "BadQuestion.__init__") (Arguments.mk [] [(Arg.mk (τ "self") none ⟨122,17,122,21⟩), (Arg.mk (τ "thing") none ⟨122,23,122,28⟩)] none [] [] none []) (FuncBody.stmts [(Stmt.Assign [(Expr.Attribute (Expr.Name (τ "self") ⟨123,8,123,12⟩) (τ "thing") ⟨123,8,123,18⟩)] (Expr.Name (τ "thing") ⟨123,21,123,26⟩) ⟨123,8,123,26⟩)]) (Scope.mk ScopeKind.function [((τ "self"), NameKind.local), ((τ "thing"), NameKind.local)] Bool.false Bool.false []) 3 [] .none .none .none (Value.str (τ "lastfaces.errors") 187) none (Value.ref 591) .none 0)) #[])
def o593 (P : Params) : Obj := (Obj.mk (Value.type "tuple") none (Data.seq (List.toArray [(Value.str (τ "thing") 952)]) 0) #[])
def o594 (P : Params) : Obj := (Obj.mk (Value.type "dict") none (Data.dict (List.toArray [(DictEntry.mk (η P (τ "__module__")) (Value.str (τ "__module__") 939) (Value.str (τ "lastfaces.errors") 187)), (DictEntry.mk (η P (τ "__firstlineno__")) (Value.str (τ "__firstlineno__") 943) (Value.int 120 942)), (DictEntry.mk (η P (τ "__init__")) (Value.str (τ "__init__") 951) (Value.ref 592)), (DictEntry.mk (η P (τ "__static_attributes__")) (Value.str (τ "__static_attributes__") 953) (Value.ref 593)), (DictEntry.mk (η P (τ "__doc__")) (Value.str (τ "__doc__") 954) .none)]) 2) #[])
def o595 (P : Params) : Obj := (Obj.mk (Value.type "type") none (Data.cls (ClassData.mk (τ "BadQuestion") [(Value.ref 24)] [(Value.ref 595), (Value.ref 24), (Value.type "ValueError"), (Value.type "Exception"), (Value.type "BaseException"), (Value.type "object")] 594 (τ "BadQuestion") Bool.true [] [] Bool.false none Bool.false)) (List.toArray [(Option.some (Value.ref 579)), none, (Option.some (Value.str (τ "BadQuestion") 932)), (Option.some (Value.str (τ "BadQuestion") 940)), (Option.some (Value.builtin "ValueError.__new__")), (Option.some (Value.bool Bool.true))]))
def o596 (P : Params) : Obj := (Obj.mk (Value.type "super") none (Data.fields (List.toArray [(Value.ref 595), (Value.ref 595), (Value.ref 595)])) #[])
def o597 (P : Params) : Obj := (Obj.mk (Value.type "builtin_function_or_method") none (Data.fields (List.toArray [(Value.builtin "object.__init_subclass__"), (Value.ref 595)])) #[])
def o598 (P : Params) : Obj := (Obj.mk (Value.type "tuple") none (Data.seq (List.toArray [(Value.ref 24)]) 0) #[])
def o599 (P : Params) : Obj := (Obj.mk (Value.type "builtin_function_or_method") none (Data.fields (List.toArray [(Value.builtin "type.__prepare__"), (Value.type "type")])) #[])
def o600 (P : Params) : Obj := (Obj.mk (Value.type "dict") none (Data.dict (List.toArray [(DictEntry.mk (η P (τ "__module__")) (Value.str (τ "__module__") 964) (Value.str (τ "lastfaces.errors") 187)), (DictEntry.mk (η P (τ "__qualname__")) (Value.str (τ "__qualname__") 966) (Value.str (τ "BadRooms") 965)), (DictEntry.mk (η P (τ "__firstlineno__")) (Value.str (τ "__firstlineno__") 968) (Value.int 124 967)), (DictEntry.mk (η P (τ "__init__")) (Value.str (τ "__init__") 976) (Value.ref 611)), (DictEntry.mk (η P (τ "__static_attributes__")) (Value.str (τ "__static_attributes__") 978) (Value.ref 612))]) 5) #[])
def g58 (P : Params) : List Obj := [o591 P, o592 P, o593 P, o594 P, o595 P, o596 P, o597 P, o598 P, o599 P, o600 P]
def o601 (P : Params) : Obj := (Obj.mk (Value.type "tuple") none (Data.seq #[] 0) #[])
def o602 (P : Params) : Obj := (Obj.mk .none none (Data.fields (List.toArray [(ι 126), (ι 4), (Value.ref 610)])) #[])
def o603 (P : Params) : Obj := (Obj.mk (Value.type "code") none (Data.fields (List.toArray [(Value.str (τ "BadRooms") 959), (Value.str (τ "BadRooms") 960), (Value.str (τ "/claim/cut.py") 961), (ι 124), (ι 0), (ι 0), (ι 0), (ι 0), (Value.ref 601), (Value.bool Bool.false), (ι 181), (Value.ref 602), .none, .none, .none, .none, (ι 962), (ι 124), (Value.str (τ "/claim/cut.py") 963)])) #[])
def o604 (P : Params) : Obj := (Obj.mk (Value.type "frame") none Data.plain (List.toArray [(Option.some (Value.ref 603)), (Option.some (Value.ref 3)), (Option.some (Value.ref 600)), none, (Option.some (Value.str (τ "lastfaces.errors") 187)), none, (Option.some (Value.ref 0))]))
def o605 (P : Params) : Obj := (Obj.mk (Value.type "tuple") none (Data.seq #[] 0) #[])
def o606 (P : Params) : Obj := (Obj.mk .none none (Data.fields #[]) #[])
def o607 (P : Params) : Obj := (Obj.mk (Value.type "tuple") none (Data.seq (List.toArray [(Value.str (τ "self") 972), (Value.str (τ "index") 973)]) 0) #[])
def o608 (P : Params) : Obj := (Obj.mk (Value.type "tuple") none (Data.seq #[] 0) #[])
def o609 (P : Params) : Obj := (Obj.mk .none none (Data.func (FuncData.mk (τ "__init__") (τ "BadRooms.__init__") (Arguments.mk [] [(Arg.mk (τ "self") none ⟨126,17,126,21⟩), (Arg.mk (τ "index") none ⟨126,23,126,28⟩)] none [] [] none []) (FuncBody.stmts [(Stmt.Assign [(Expr.Attribute (Expr.Name (τ "self") ⟨127,8,127,12⟩) (τ "index") ⟨127,8,127,18⟩)] (Expr.Name (τ "index") ⟨127,21,127,26⟩) ⟨127,8,127,26⟩)]) (Scope.mk ScopeKind.function [((τ "self"), NameKind.local), ((τ "index"), NameKind.local)] Bool.false Bool.false []) 0 [] .none .none .none .none none .none .none 0)) #[])
def o610 (P : Params) : Obj := (Obj.mk (Value.type "code") none (Data.fields (List.toArray [(Value.str (τ "__init__") 969), (Value.str (τ "BadRooms.__init__") 970), (Value.str (τ "/claim/cut.py") 971), (ι 126), (ι 2), (ι 0), (ι 0), (ι 3), (Value.ref 605), (Value.bool Bool.true), (ι 181), (Value.ref 606), .none, (Value.ref 607), (Value.ref 608), (Value.ref 609), (ι 974), (ι 126), (Value.str (τ "/claim/cut.py") 975)])) #[])
def g59 (P : Params) : List Obj := [o601 P, o602 P, o603 P, o604 P, o605 P, o606 P, o607 P, o608 P, o609 P, o610 P]
def o611 (P : Params) : Obj := (Obj.mk (Value.type "function") none (Data.func (FuncData.mk (τ "__init__") (τ "BadRooms.__init__") (Arguments.mk [] [(Arg.mk (τ "self") none ⟨126,17,126,21⟩), (Arg.mk (τ "index") none ⟨126,23,126,28⟩)] none [] [] none []) (FuncBody.stmts [(Stmt.Assign [(Expr.Attribute (Expr.Name (τ "self") ⟨127,8,127,12⟩) (τ "index") ⟨127,8,127,18⟩)] (Expr.Name (τ "index") ⟨127,21,127,26⟩) ⟨127,8,127,26⟩)]) (Scope.mk ScopeKind.function [((τ "self"), NameKind.local), ((τ "index"), NameKind.local)] Bool.false Bool.false []) 3 [] .none .none .none (Value.str (τ "lastfaces.errors") 187) none (Value.ref 610) .none 0)) #[])
def o612 (P : Params) : Obj := (Obj.mk (Value.type "tuple") none (Data.seq (List.toArray [(Value.str (τ "index") 977)]) 0) #[])
def o613 (P : Params) : Obj := (Obj.mk (Value.type "dict") none (Data.dict (List.toArray [(DictEntry.mk (η P (τ "__module__")) (Value.str (τ "__module__") 964) (Value.str (τ "lastfaces.errors") 187)), (DictEntry.mk (η P (τ "__firstlineno__")) (Value.str (τ "__firstlineno__") 968) (Value.int 124 967)), (DictEntry.mk (η P (τ "__init__")) (Value.str (τ "__init__") 976) (Value.ref 611)), (DictEntry.mk (η P (τ "__static_attributes__")) (Value.str (τ "__static_attributes__") 978) (Value.ref 612)), (DictEntry.mk (η P (τ "__doc__")) (Value.str (τ "__doc__") 979) .none)]) 2) #[])
def o614 (P : Params) : Obj := (Obj.mk (Value.type "type") none (Data.cls (ClassData.mk (τ "BadRooms") [(Value.ref 24)] [(Value.ref 614), (Value.ref 24), (Value.type "ValueError"), (Value.type "Exception"), (Value.type "BaseException"), (Value.type "object")] 613 (τ "BadRooms") Bool.true [] [] Bool.false none Bool.false)) (List.toArray [(Option.some (Value.ref 598)), none, (Option.some (Value.str (τ "BadRooms") 957)), (Option.some (Value.str (τ "BadRooms") 965)), (Option.some (Value.builtin "ValueError.__new__")), (Option.some (Value.bool Bool.true))]))
def o615 (P : Params) : Obj := (Obj.mk (Value.type "super") none (Data.fields (List.toArray [(Value.ref 614), (Value.ref 614), (Value.ref 614)])) #[])
def o616 (P : Params) : Obj := (Obj.mk (Value.type "builtin_function_or_method") none (Data.fields (List.toArray [(Value.builtin "object.__init_subclass__"), (Value.ref 614)])) #[])
def o617 (P : Params) : Obj := (Obj.mk (Value.type "tuple") none (Data.seq (List.toArray [(Value.ref 24)]) 0) #[])
def o618 (P : Params) : Obj := (Obj.mk (Value.type "builtin_function_or_method") none (Data.fields (List.toArray [(Value.builtin "type.__prepare__"), (Value.type "type")])) #[])
def o619 (P : Params) : Obj := (Obj.mk (Value.type "dict") none (Data.dict (List.toArray [(DictEntry.mk (η P (τ "__module__")) (Value.str (τ "__module__") 989) (Value.str (τ "lastfaces.errors") 187)), (DictEntry.mk (η P (τ "__qualname__")) (Value.str (τ "__qualname__") 991) (Value.str (τ "BadRow") 990)), (DictEntry.mk (η P (τ "__firstlineno__")) (Value.str (τ "__firstlineno__") 993) (Value.int 128 992)), (DictEntry.mk (η P (τ "__init__")) (Value.str (τ "__init__") 1001) (Value.ref 630)), (DictEntry.mk (η P (τ "__static_attributes__")) (Value.str (τ "__static_attributes__") 1003) (Value.ref 631))]) 5) #[])
def o620 (P : Params) : Obj := (Obj.mk (Value.type "tuple") none (Data.seq #[] 0) #[])
def g60 (P : Params) : List Obj := [o611 P, o612 P, o613 P, o614 P, o615 P, o616 P, o617 P, o618 P, o619 P, o620 P]
def o621 (P : Params) : Obj := (Obj.mk .none none (Data.fields (List.toArray [(ι 130), (ι 4), (Value.ref 629)])) #[])
def o622 (P : Params) : Obj := (Obj.mk (Value.type "code") none (Data.fields (List.toArray [(Value.str (τ "BadRow") 984), (Value.str (τ "BadRow") 985), (Value.str (τ "/claim/cut.py") 986), (ι 128), (ι 0), (ι 0), (ι 0), (ι 0), (Value.ref 620), (Value.bool Bool.false), (ι 181), (Value.ref 621), .none, .none, .none, .none, (ι 987), (ι 128), (Value.str (τ "/claim/cut.py") 988)])) #[])
def o623 (P : Params) : Obj := (Obj.mk (Value.type "frame") none Data.plain (List.toArray [(Option.some (Value.ref 622)), (Option.some (Value.ref 3)), (Option.some (Value.ref 619)), none, (Option.some (Value.str (τ "lastfaces.errors") 187)), none, (Option.some (Value.ref 0))]))
def o624 (P : Params) : Obj := (Obj.mk (Value.type "tuple") none (Data.seq #[] 0) #[])
def o625 (P : Params) : Obj := (Obj.mk .none none (Data.fields #[]) #[])
def o626 (P : Params) : Obj := (Obj.mk (Value.type "tuple") none (Data.seq (List.toArray [(Value.str (τ "self") 997), (Value.str (τ "index") 998)]) 0) #[])
def o627 (P : Params) : Obj := (Obj.mk (Value.type "tuple") none (Data.seq #[] 0) #[])
def o628 (P : Params) : Obj := (Obj.mk .none none (Data.func (FuncData.mk (τ "__init__") (τ "BadRow.__init__") (Arguments.mk [] [(Arg.mk (τ "self") none ⟨130,17,130,21⟩), (Arg.mk (τ "index") none ⟨130,23,130,28⟩)] none [] [] none []) (FuncBody.stmts [(Stmt.Assign [(Expr.Attribute (Expr.Name (τ "self") ⟨131,8,131,12⟩) (τ "index") ⟨131,8,131,18⟩)] (Expr.Name (τ "index") ⟨131,21,131,26⟩) ⟨131,8,131,26⟩)]) (Scope.mk ScopeKind.function [((τ "self"), NameKind.local), ((τ "index"), NameKind.local)] Bool.false Bool.false []) 0 [] .none .none .none .none none .none .none 0)) #[])
def o629 (P : Params) : Obj := (Obj.mk (Value.type "code") none (Data.fields (List.toArray [(Value.str (τ "__init__") 994), (Value.str (τ "BadRow.__init__") 995), (Value.str (τ "/claim/cut.py") 996), (ι 130), (ι 2), (ι 0), (ι 0), (ι 3), (Value.ref 624), (Value.bool Bool.true), (ι 181), (Value.ref 625), .none, (Value.ref 626), (Value.ref 627), (Value.ref 628), (ι 999), (ι 130), (Value.str (τ "/claim/cut.py") 1000)])) #[])
def o630 (P : Params) : Obj := (Obj.mk (Value.type "function") none (Data.func (FuncData.mk (τ "__init__") (τ "BadRow.__init__") (Arguments.mk [] [(Arg.mk (τ "self") none ⟨130,17,130,21⟩), (Arg.mk (τ "index") none ⟨130,23,130,28⟩)] none [] [] none []) (FuncBody.stmts [(Stmt.Assign [(Expr.Attribute (Expr.Name (τ "self") ⟨131,8,131,12⟩) (τ "index") ⟨131,8,131,18⟩)] (Expr.Name (τ "index") ⟨131,21,131,26⟩) ⟨131,8,131,26⟩)]) (Scope.mk ScopeKind.function [((τ "self"), NameKind.local), ((τ "index"), NameKind.local)] Bool.false Bool.false []) 3 [] .none .none .none (Value.str (τ "lastfaces.errors") 187) none (Value.ref 629) .none 0)) #[])
def g61 (P : Params) : List Obj := [o621 P, o622 P, o623 P, o624 P, o625 P, o626 P, o627 P, o628 P, o629 P, o630 P]
def o631 (P : Params) : Obj := (Obj.mk (Value.type "tuple") none (Data.seq (List.toArray [(Value.str (τ "index") 1002)]) 0) #[])
def o632 (P : Params) : Obj := (Obj.mk (Value.type "dict") none (Data.dict (List.toArray [(DictEntry.mk (η P (τ "__module__")) (Value.str (τ "__module__") 989) (Value.str (τ "lastfaces.errors") 187)), (DictEntry.mk (η P (τ "__firstlineno__")) (Value.str (τ "__firstlineno__") 993) (Value.int 128 992)), (DictEntry.mk (η P (τ "__init__")) (Value.str (τ "__init__") 1001) (Value.ref 630)), (DictEntry.mk (η P (τ "__static_attributes__")) (Value.str (τ "__static_attributes__") 1003) (Value.ref 631)), (DictEntry.mk (η P (τ "__doc__")) (Value.str (τ "__doc__") 1004) .none)]) 2) #[])
def o633 (P : Params) : Obj := (Obj.mk (Value.type "type") none (Data.cls (ClassData.mk (τ "BadRow") [(Value.ref 24)] [(Value.ref 633), (Value.ref 24), (Value.type "ValueError"), (Value.type "Exception"), (Value.type "BaseException"), (Value.type "object")] 632 (τ "BadRow") Bool.true [] [] Bool.false none Bool.false)) (List.toArray [(Option.some (Value.ref 617)), none, (Option.some (Value.str (τ "BadRow") 982)), (Option.some (Value.str (τ "BadRow") 990)), (Option.some (Value.builtin "ValueError.__new__")), (Option.some (Value.bool Bool.true))]))
def o634 (P : Params) : Obj := (Obj.mk (Value.type "super") none (Data.fields (List.toArray [(Value.ref 633), (Value.ref 633), (Value.ref 633)])) #[])
def o635 (P : Params) : Obj := (Obj.mk (Value.type "builtin_function_or_method") none (Data.fields (List.toArray [(Value.builtin "object.__init_subclass__"), (Value.ref 633)])) #[])
def o636 (P : Params) : Obj := (Obj.mk (Value.type "tuple") none (Data.seq (List.toArray [(Value.ref 24)]) 0) #[])
def o637 (P : Params) : Obj := (Obj.mk (Value.type "builtin_function_or_method") none (Data.fields (List.toArray [(Value.builtin "type.__prepare__"), (Value.type "type")])) #[])
def o638 (P : Params) : Obj := (Obj.mk (Value.type "dict") none (Data.dict (List.toArray [(DictEntry.mk (η P (τ "__module__")) (Value.str (τ "__module__") 1014) (Value.str (τ "lastfaces.errors") 187)), (DictEntry.mk (η P (τ "__qualname__")) (Value.str (τ "__qualname__") 1016) (Value.str (τ "BadRows") 1015)), (DictEntry.mk (η P (τ "__firstlineno__")) (Value.str (τ "__firstlineno__") 1018) (Value.int 132 1017)), (DictEntry.mk (η P (τ "__init__")) (Value.str (τ "__init__") 1026) (Value.ref 649)), (DictEntry.mk (η P (τ "__static_attributes__")) (Value.str (τ "__static_attributes__") 1028) (Value.ref 650))]) 5) #[])
def o639 (P : Params) : Obj := (Obj.mk (Value.type "tuple") none (Data.seq #[] 0) #[])
def o640 (P : Params) : Obj := (Obj.mk .none none (Data.fields (List.toArray [(ι 134), (ι 4), (Value.ref 648)])) #[])
def g62 (P : Params) : List Obj := [o631 P, o632 P, o633 P, o634 P, o635 P, o636 P, o637 P, o638 P, o639 P, o640 P]
def o641 (P : Params) : Obj := (Obj.mk (Value.type "code") none (Data.fields (List.toArray [(Value.str (τ "BadRows") 1009), (Value.str (τ "BadRows") 1010), (Value.str (τ "/claim/cut.py") 1011), (ι 132), (ι 0), (ι 0), (ι 0), (ι 0), (Value.ref 639), (Value.bool Bool.false), (ι 181), (Value.ref 640), .none, .none, .none, .none, (ι 1012), (ι 132), (Value.str (τ "/claim/cut.py") 1013)])) #[])
def o642 (P : Params) : Obj := (Obj.mk (Value.type "frame") none Data.plain (List.toArray [(Option.some (Value.ref 641)), (Option.some (Value.ref 3)), (Option.some (Value.ref 638)), none, (Option.some (Value.str (τ "lastfaces.errors") 187)), none, (Option.some (Value.ref 0))]))
def o643 (P : Params) : Obj := (Obj.mk (Value.type "tuple") none (Data.seq #[] 0) #[])
def o644 (P : Params) : Obj := (Obj.mk .none none (Data.fields #[]) #[])
def o645 (P : Params) : Obj := (Obj.mk (Value.type "tuple") none (Data.seq (List.toArray [(Value.str (τ "self") 1022), (Value.str (τ "thing") 1023)]) 0) #[])
def o646 (P : Params) : Obj := (Obj.mk (Value.type "tuple") none (Data.seq #[] 0) #[])
def o647 (P : Params) : Obj := (Obj.mk .none none (Data.func (FuncData.mk (τ "__init__") (τ "BadRows.__init__") (Arguments.mk [] [(Arg.mk (τ "self") none ⟨134,17,134,21⟩), (Arg.mk (τ "thing") none ⟨134,23,134,28⟩)] none [] [] none []) (FuncBody.stmts [(Stmt.Assign [(Expr.Attribute (Expr.Name (τ "self") ⟨135,8,135,12⟩) (τ "thing") ⟨135,8,135,18⟩)] (Expr.Name (τ "thing") ⟨135,21,135,26⟩) ⟨135,8,135,26⟩)]) (Scope.mk ScopeKind.function [((τ "self"), NameKind.local), ((τ "thing"), NameKind.local)] Bool.false Bool.false []) 0 [] .none .none .none .none none .none .none 0)) #[])
def o648 (P : Params) : Obj := (Obj.mk (Value.type "code") none (Data.fields (List.toArray [(Value.str (τ "__init__") 1019), (Value.str (τ "BadRows.__init__") 1020), (Value.str (τ "/claim/cut.py") 1021), (ι 134), (ι 2), (ι 0), (ι 0), (ι 3), (Value.ref 643), (Value.bool Bool.true), (ι 181), (Value.ref 644), .none, (Value.ref 645), (Value.ref 646), (Value.ref 647), (ι 1024), (ι 134), (Value.str (τ "/claim/cut.py") 1025)])) #[])
def o649 (P : Params) : Obj := (Obj.mk (Value.type "function") none (Data.func (FuncData.mk (τ "__init__") (τ "BadRows.__init__") (Arguments.mk [] [(Arg.mk (τ "self") none ⟨134,17,134,21⟩), (Arg.mk (τ "thing") none ⟨134,23,134,28⟩)] none [] [] none []) (FuncBody.stmts [(Stmt.Assign [(Expr.Attribute (Expr.Name (τ "self") ⟨135,8,135,12⟩) (τ "thing") ⟨135,8,135,18⟩)] (Expr.Name (τ "thing") ⟨135,21,135,26⟩) ⟨135,8,135,26⟩)]) (Scope.mk ScopeKind.function [((τ "self"), NameKind.local), ((τ "thing"), NameKind.local)] Bool.false Bool.false []) 3 [] .none .none .none (Value.str (τ "lastfaces.errors") 187) none (Value.ref 648) .none 0)) #[])
def o650 (P : Params) : Obj := (Obj.mk (Value.type "tuple") none (Data.seq (List.toArray [(Value.str (τ "thing") 1027)]) 0) #[])
def g63 (P : Params) : List Obj := [o641 P, o642 P, o643 P, o644 P, o645 P, o646 P, o647 P, o648 P, o649 P, o650 P]
def o651 (P : Params) : Obj := (Obj.mk (Value.type "dict") none (Data.dict (List.toArray [(DictEntry.mk (η P (τ "__module__")) (Value.str (τ "__module__") 1014) (Value.str (τ "lastfaces.errors") 187)), (DictEntry.mk (η P (τ "__firstlineno__")) (Value.str (τ "__firstlineno__") 1018) (Value.int 132 1017)), (DictEntry.mk (η P (τ "__init__")) (Value.str (τ "__init__") 1026) (Value.ref 649)), (DictEntry.mk (η P (τ "__static_attributes__")) (Value.str (τ "__static_attributes__") 1028) (Value.ref 650)), (DictEntry.mk (η P (τ "__doc__")) (Value.str (τ "__doc__") 1029) .none)]) 2) #[])
def o652 (P : Params) : Obj := (Obj.mk (Value.type "type") none (Data.cls (ClassData.mk (τ "BadRows") [(Value.ref 24)] [(Value.ref 652), (Value.ref 24), (Value.type "ValueError"), (Value.type "Exception"), (Value.type "BaseException"), (Value.type "object")] 651 (τ "BadRows") Bool.true [] [] Bool.false none Bool.false)) (List.toArray [(Option.some (Value.ref 636)), none, (Option.some (Value.str (τ "BadRows") 1007)), (Option.some (Value.str (τ "BadRows") 1015)), (Option.some (Value.builtin "ValueError.__new__")), (Option.some (Value.bool Bool.true))]))
def o653 (P : Params) : Obj := (Obj.mk (Value.type "super") none (Data.fields (List.toArray [(Value.ref 652), (Value.ref 652), (Value.ref 652)])) #[])
def o654 (P : Params) : Obj := (Obj.mk (Value.type "builtin_function_or_method") none (Data.fields (List.toArray [(Value.builtin "object.__init_subclass__"), (Value.ref 652)])) #[])
def o655 (P : Params) : Obj := (Obj.mk (Value.type "tuple") none (Data.seq (List.toArray [(Value.ref 24)]) 0) #[])
def o656 (P : Params) : Obj := (Obj.mk (Value.type "builtin_function_or_method") none (Data.fields (List.toArray [(Value.builtin "type.__prepare__"), (Value.type "type")])) #[])
def o657 (P : Params) : Obj := (Obj.mk (Value.type "dict") none (Data.dict (List.toArray [(DictEntry.mk (η P (τ "__module__")) (Value.str (τ "__module__") 1039) (Value.str (τ "lastfaces.errors") 187)), (DictEntry.mk (η P (τ "__qualname__")) (Value.str (τ "__qualname__") 1041) (Value.str (τ "BadSeen") 1040)), (DictEntry.mk (η P (τ "__firstlineno__")) (Value.str (τ "__firstlineno__") 1043) (Value.int 136 1042)), (DictEntry.mk (η P (τ "__init__")) (Value.str (τ "__init__") 1051) (Value.ref 668)), (DictEntry.mk (η P (τ "__static_attributes__")) (Value.str (τ "__static_attributes__") 1053) (Value.ref 669))]) 5) #[])
def o658 (P : Params) : Obj := (Obj.mk (Value.type "tuple") none (Data.seq #[] 0) #[])
def o659 (P : Params) : Obj := (Obj.mk .none none (Data.fields (List.toArray [(ι 138), (ι 4), (Value.ref 667)])) #[])
def o660 (P : Params) : Obj := (Obj.mk (Value.type "code") none (Data.fields (List.toArray [(Value.str (τ "BadSeen") 1034), (Value.str (τ "BadSeen") 1035), (Value.str (τ "/claim/cut.py") 1036), (ι 136), (ι 0), (ι 0), (ι 0), (ι 0), (Value.ref 658), (Value.bool Bool.false), (ι 181), (Value.ref 659), .none, .none, .none, .none, (ι 1037), (ι 136), (Value.str (τ "/claim/cut.py") 1038)])) #[])
def g64 (P : Params) : List Obj := [o651 P, o652 P, o653 P, o654 P, o655 P, o656 P, o657 P, o658 P, o659 P, o660 P]
def o661 (P : Params) : Obj := (Obj.mk (Value.type "frame") none Data.plain (List.toArray [(Option.some (Value.ref 660)), (Option.some (Value.ref 3)), (Option.some (Value.ref 657)), none, (Option.some (Value.str (τ "lastfaces.errors") 187)), none, (Option.some (Value.ref 0))]))
def o662 (P : Params) : Obj := (Obj.mk (Value.type "tuple") none (Data.seq #[] 0) #[])
def o663 (P : Params) : Obj := (Obj.mk .none none (Data.fields #[]) #[])
def o664 (P : Params) : Obj := (Obj.mk (Value.type "tuple") none (Data.seq (List.toArray [(Value.str (τ "self") 1047), (Value.str (τ "thing") 1048)]) 0) #[])
def o665 (P : Params) : Obj := (Obj.mk (Value.type "tuple") none (Data.seq #[] 0) #[])
def o666 (P : Params) : Obj := (Obj.mk .none none (Data.func (FuncData.mk (τ "__init__") (τ "BadSeen.__init__") (Arguments.mk [] [(Arg.mk (τ "self") none ⟨138,17,138,21⟩), (Arg.mk (τ "thing") none ⟨138,23,138,28⟩)] none [] [] none []) (FuncBody.stmts [(Stmt.Assign [(Expr.Attribute (Expr.Name (τ "self") ⟨139,8,139,12⟩) (τ "thing") ⟨139,8,139,18⟩)] (Expr.Name (τ "thing") ⟨139,21,139,26⟩) ⟨139,8,139,26⟩)]) (Scope.mk ScopeKind.function [((τ "self"), NameKind.local), ((τ "thing"), NameKind.local)] Bool.false Bool.false []) 0 [] .none .none .none .none none .none .none 0)) #[])
def o667 (P : Params) : Obj := (Obj.mk (Value.type "code") none (Data.fields (List.toArray [(Value.str (τ "__init__") 1044), (Value.str (τ "BadSeen.__init__") 1045), (Value.str (τ "/claim/cut.py") 1046), (ι 138), (ι 2), (ι 0), (ι 0), (ι 3), (Value.ref 662), (Value.bool Bool.true), (ι 181), (Value.ref 663), .none, (Value.ref 664), (Value.ref 665), (Value.ref 666), (ι 1049), (ι 138), (Value.str (τ "/claim/cut.py") 1050)])) #[])
def o668 (P : Params) : Obj := (Obj.mk (Value.type "function") none (Data.func (FuncData.mk (τ "__init__") (τ "BadSeen.__init__") (Arguments.mk [] [(Arg.mk (τ "self") none ⟨138,17,138,21⟩), (Arg.mk (τ "thing") none ⟨138,23,138,28⟩)] none [] [] none []) (FuncBody.stmts [(Stmt.Assign [(Expr.Attribute (Expr.Name (τ "self") ⟨139,8,139,12⟩) (τ "thing") ⟨139,8,139,18⟩)] (Expr.Name (τ "thing") ⟨139,21,139,26⟩) ⟨139,8,139,26⟩)]) (Scope.mk ScopeKind.function [((τ "self"), NameKind.local), ((τ "thing"), NameKind.local)] Bool.false Bool.false []) 3 [] .none .none .none (Value.str (τ "lastfaces.errors") 187) none (Value.ref 667) .none 0)) #[])
def o669 (P : Params) : Obj := (Obj.mk (Value.type "tuple") none (Data.seq (List.toArray [(Value.str (τ "thing") 1052)]) 0) #[])
def o670 (P : Params) : Obj := (Obj.mk (Value.type "dict") none (Data.dict (List.toArray [(DictEntry.mk (η P (τ "__module__")) (Value.str (τ "__module__") 1039) (Value.str (τ "lastfaces.errors") 187)), (DictEntry.mk (η P (τ "__firstlineno__")) (Value.str (τ "__firstlineno__") 1043) (Value.int 136 1042)), (DictEntry.mk (η P (τ "__init__")) (Value.str (τ "__init__") 1051) (Value.ref 668)), (DictEntry.mk (η P (τ "__static_attributes__")) (Value.str (τ "__static_attributes__") 1053) (Value.ref 669)), (DictEntry.mk (η P (τ "__doc__")) (Value.str (τ "__doc__") 1054) .none)]) 2) #[])
def g65 (P : Params) : List Obj := [o661 P, o662 P, o663 P, o664 P, o665 P, o666 P, o667 P, o668 P, o669 P, o670 P]
def o671 (P : Params) : Obj := (Obj.mk (Value.type "type") none (Data.cls (ClassData.mk (τ "BadSeen") [(Value.ref 24)] [(Value.ref 671), (Value.ref 24), (Value.type "ValueError"), (Value.type "Exception"), (Value.type "BaseException"), (Value.type "object")] 670 (τ "BadSeen") Bool.true [] [] Bool.false none Bool.false)) (List.toArray [(Option.some (Value.ref 655)), none, (Option.some (Value.str (τ "BadSeen") 1032)), (Option.some (Value.str (τ "BadSeen") 1040)), (Option.some (Value.builtin "ValueError.__new__")), (Option.some (Value.bool Bool.true))]))
def o672 (P : Params) : Obj := (Obj.mk (Value.type "super") none (Data.fields (List.toArray [(Value.ref 671), (Value.ref 671), (Value.ref 671)])) #[])
def o673 (P : Params) : Obj := (Obj.mk (Value.type "builtin_function_or_method") none (Data.fields (List.toArray [(Value.builtin "object.__init_subclass__"), (Value.ref 671)])) #[])
def o674 (P : Params) : Obj := (Obj.mk (Value.type "tuple") none (Data.seq (List.toArray [(Value.ref 24)]) 0) #[])
def o675 (P : Params) : Obj := (Obj.mk (Value.type "builtin_function_or_method") none (Data.fields (List.toArray [(Value.builtin "type.__prepare__"), (Value.type "type")])) #[])
def o676 (P : Params) : Obj := (Obj.mk (Value.type "dict") none (Data.dict (List.toArray [(DictEntry.mk (η P (τ "__module__")) (Value.str (τ "__module__") 1064) (Value.str (τ "lastfaces.errors") 187)), (DictEntry.mk (η P (τ "__qualname__")) (Value.str (τ "__qualname__") 1066) (Value.str (τ "BadShy") 1065)), (DictEntry.mk (η P (τ "__firstlineno__")) (Value.str (τ "__firstlineno__") 1068) (Value.int 140 1067)), (DictEntry.mk (η P (τ "__init__")) (Value.str (τ "__init__") 1076) (Value.ref 687)), (DictEntry.mk (η P (τ "__static_attributes__")) (Value.str (τ "__static_attributes__") 1078) (Value.ref 688))]) 5) #[])
def o677 (P : Params) : Obj := (Obj.mk (Value.type "tuple") none (Data.seq #[] 0) #[])
def o678 (P : Params) : Obj := (Obj.mk .none none (Data.fields (List.toArray [(ι 142), (ι 4), (Value.ref 686)])) #[])
def o679 (P : Params) : Obj := (Obj.mk (Value.type "code") none (Data.fields (List.toArray [(Value.str (τ "BadShy") 1059), (Value.str (τ "BadShy") 1060), (Value.str (τ "/claim/cut.py") 1061), (ι 140), (ι 0), (ι 0), (ι 0), (ι 0), (Value.ref 677), (Value.bool Bool.false), (ι 181), (Value.ref 678), .none, .none, .none, .none, (ι 1062), (ι 140), (Value.str (τ "/claim/cut.py") 1063)])) #[])
def o680 (P : Params) : Obj := (Obj.mk (Value.type "frame") none Data.plain (List.toArray [(Option.some (Value.ref 679)), (Option.some (Value.ref 3)), (Option.some (Value.ref 676)), none, (Option.some (Value.str (τ "lastfaces.errors") 187)), none, (Option.some (Value.ref 0))]))
def g66 (P : Params) : List Obj := [o671 P, o672 P, o673 P, o674 P, o675 P, o676 P, o677 P, o678 P, o679 P, o680 P]
def o681 (P : Params) : Obj := (Obj.mk (Value.type "tuple") none (Data.seq #[] 0) #[])
def o682 (P : Params) : Obj := (Obj.mk .none none (Data.fields #[]) #[])
def o683 (P : Params) : Obj := (Obj.mk (Value.type "tuple") none (Data.seq (List.toArray [(Value.str (τ "self") 1072), (Value.str (τ "thing") 1073)]) 0) #[])
def o684 (P : Params) : Obj := (Obj.mk (Value.type "tuple") none (Data.seq #[] 0) #[])
def o685 (P : Params) : Obj := (Obj.mk .none none (Data.func (FuncData.mk (τ "__init__") (τ "BadShy.__init__") (Arguments.mk [] [(Arg.mk (τ "self") none ⟨142,17,142,21⟩), (Arg.mk (τ "thing") none ⟨142,23,142,28⟩)] none [] [] none []) (FuncBody.stmts [(Stmt.Assign [(Expr.Attribute (Expr.Name (τ "self") ⟨143,8,143,12⟩) (τ "thing") ⟨143,8,143,18⟩)] (Expr.Name (τ "thing") ⟨143,21,143,26⟩) ⟨143,8,143,26⟩)]) (Scope.mk ScopeKind.function [((τ "self"), NameKind.local), ((τ "thing"), NameKind.local)] Bool.false Bool.false []) 0 [] .none .none .none .none none .none .none 0)) #[])
def o686 (P : Params) : Obj := (Obj.mk (Value.type "code") none (Data.fields (List.toArray [(Value.str (τ "__init__") 1069), (Value.str (τ "BadShy.__init__") 1070), (Value.str (τ "/claim/cut.py") 1071), (ι 142), (ι 2), (ι 0), (ι 0), (ι 3), (Value.ref 681), (Value.bool Bool.true), (ι 181), (Value.ref 682), .none, (Value.ref 683), (Value.ref 684), (Value.ref 685), (ι 1074), (ι 142), (Value.str (τ "/claim/cut.py") 1075)])) #[])
def o687 (P : Params) : Obj := (Obj.mk (Value.type "function") none (Data.func (FuncData.mk (τ "__init__") (τ "BadShy.__init__") (Arguments.mk [] [(Arg.mk (τ "self") none ⟨142,17,142,21⟩), (Arg.mk (τ "thing") none ⟨142,23,142,28⟩)] none [] [] none []) (FuncBody.stmts [(Stmt.Assign [(Expr.Attribute (Expr.Name (τ "self") ⟨143,8,143,12⟩) (τ "thing") ⟨143,8,143,18⟩)] (Expr.Name (τ "thing") ⟨143,21,143,26⟩) ⟨143,8,143,26⟩)]) (Scope.mk ScopeKind.function [((τ "self"), NameKind.local), ((τ "thing"), NameKind.local)] Bool.false Bool.false []) 3 [] .none .none .none (Value.str (τ "lastfaces.errors") 187) none (Value.ref 686) .none 0)) #[])
def o688 (P : Params) : Obj := (Obj.mk (Value.type "tuple") none (Data.seq (List.toArray [(Value.str (τ "thing") 1077)]) 0) #[])
def o689 (P : Params) : Obj := (Obj.mk (Value.type "dict") none (Data.dict (List.toArray [(DictEntry.mk (η P (τ "__module__")) (Value.str (τ "__module__") 1064) (Value.str (τ "lastfaces.errors") 187)), (DictEntry.mk (η P (τ "__firstlineno__")) (Value.str (τ "__firstlineno__") 1068) (Value.int 140 1067)), (DictEntry.mk (η P (τ "__init__")) (Value.str (τ "__init__") 1076) (Value.ref 687)), (DictEntry.mk (η P (τ "__static_attributes__")) (Value.str (τ "__static_attributes__") 1078) (Value.ref 688)), (DictEntry.mk (η P (τ "__doc__")) (Value.str (τ "__doc__") 1079) .none)]) 2) #[])
def o690 (P : Params) : Obj := (Obj.mk (Value.type "type") none (Data.cls (ClassData.mk (τ "BadShy") [(Value.ref 24)] [(Value.ref 690), (Value.ref 24), (Value.type "ValueError"), (Value.type "Exception"), (Value.type "BaseException"), (Value.type "object")] 689 (τ "BadShy") Bool.true [] [] Bool.false none Bool.false)) (List.toArray [(Option.some (Value.ref 674)), none, (Option.some (Value.str (τ "BadShy") 1057)), (Option.some (Value.str (τ "BadShy") 1065)), (Option.some (Value.builtin "ValueError.__new__")), (Option.some (Value.bool Bool.true))]))
def g67 (P : Params) : List Obj := [o681 P, o682 P, o683 P, o684 P, o685 P, o686 P, o687 P, o688 P, o689 P, o690 P]
def o691 (P : Params) : Obj := (Obj.mk (Value.type "super") none (Data.fields (List.toArray [(Value.ref 690), (Value.ref 690), (Value.ref 690)])) #[])
def o692 (P : Params) : Obj := (Obj.mk (Value.type "builtin_function_or_method") none (Data.fields (List.toArray [(Value.builtin "object.__init_subclass__"), (Value.ref 690)])) #[])
def o693 (P : Params) : Obj := (Obj.mk (Value.type "tuple") none (Data.seq (List.toArray [(Value.ref 24)]) 0) #[])
def o694 (P : Params) : Obj := (Obj.mk (Value.type "builtin_function_or_method") none (Data.fields (List.toArray [(Value.builtin "type.__prepare__"), (Value.type "type")])) #[])
def o695 (P : Params) : Obj := (Obj.mk (Value.type "dict") none (Data.dict (List.toArray [(DictEntry.mk (η P (τ "__module__")) (Value.str (τ "__module__") 1089) (Value.str (τ "lastfaces.errors") 187)), (DictEntry.mk (η P (τ "__qualname__")) (Value.str (τ "__qualname__") 1091) (Value.str (τ "BadSome") 1090)), (DictEntry.mk (η P (τ "__firstlineno__")) (Value.str (τ "__firstlineno__") 1093) (Value.int 144 1092)), (DictEntry.mk (η P (τ "__init__")) (Value.str (τ "__init__") 1101) (Value.ref 706)), (DictEntry.mk (η P (τ "__static_attributes__")) (Value.str (τ "__static_attributes__") 1103) (Value.ref 707))]) 5) #[])
def o696 (P : Params) : Obj := (Obj.mk (Value.type "tuple") none (Data.seq #[] 0) #[])
def o697 (P : Params) : Obj := (Obj.mk .none none (Data.fields (List.toArray [(ι 146), (ι 4), (Value.ref 705)])) #[])
def o698 (P : Params) : Obj := (Obj.mk (Value.type "code") none (Data.fields (List.toArray [(Value.str (τ "BadSome") 1084), (Value.str (τ "BadSome") 1085), (Value.str (τ "/claim/cut.py") 1086), (ι 144), (ι 0), (ι 0), (ι 0), (ι 0), (Value.ref 696), (Value.bool Bool.false), (ι 181), (Value.ref 697), .none, .none, .none, .none, (ι 1087), (ι 144), (Value.str (τ "/claim/cut.py") 1088)])) #[])
def o699 (P : Params) : Obj := (Obj.mk (Value.type "frame") none Data.plain (List.toArray [(Option.some (Value.ref 698)), (Option.some (Value.ref 3)), (Option.some (Value.ref 695)), none, (Option.some (Value.str (τ "lastfaces.errors") 187)), none, (Option.some (Value.ref 0))]))
def o700 (P : Params) : Obj := (Obj.mk (Value.type "tuple") none (Data.seq #[] 0) #[])
def g68 (P : Params) : List Obj := [o691 P, o692 P, o693 P, o694 P, o695 P, o696 P, o697 P, o698 P, o699 P, o700 P]
def o701 (P : Params) : Obj := (Obj.mk .none none (Data.fields #[]) #[])
def o702 (P : Params) : Obj := (Obj.mk (Value.type "tuple") none (Data.seq (List.toArray [(Value.str (τ "self") 1097), (Value.str (τ "index") 1098)]) 0) #[])
def o703 (P : Params) : Obj := (Obj.mk (Value.type "tuple") none (Data.seq #[] 0) #[])
def o704 (P : Params) : Obj := (Obj.mk .none none (Data.func (FuncData.mk (τ "__init__") (τ "BadSome.__init__") (Arguments.mk [] [(Arg.mk (τ "self") none ⟨146,17,146,21⟩), (Arg.mk (τ "index") none ⟨146,23,146,28⟩)] none [] [] none []) (FuncBody.stmts [(Stmt.Assign [(Expr.Attribute (Expr.Name (τ "self") ⟨147,8,147,12⟩) (τ "index") ⟨147,8,147,18⟩)] (Expr.Name (τ "index") ⟨147,21,147,26⟩) ⟨147,8,147,26⟩)]) (Scope.mk ScopeKind.function [((τ "self"), NameKind.local), ((τ "index"), NameKind.local)] Bool.false Bool.false []) 0 [] .none .none .none .none none .none .none 0)) #[])
def o705 (P : Params) : Obj := (Obj.mk (Value.type "code") none (Data.fields (List.toArray [(Value.str (τ "__init__") 1094), (Value.str (τ "BadSome.__init__") 1095), (Value.str (τ "/claim/cut.py") 1096), (ι 146), (ι 2), (ι 0), (ι 0), (ι 3), (Value.ref 700), (Value.bool Bool.true), (ι 181), (Value.ref 701), .none, (Value.ref 702), (Value.ref 703), (Value.ref 704), (ι 1099), (ι 146), (Value.str (τ "/claim/cut.py") 1100)])) #[])
def o706 (P : Params) : Obj := (Obj.mk (Value.type "function") none (Data.func (FuncData.mk (τ "__init__") (τ "BadSome.__init__") (Arguments.mk [] [(Arg.mk (τ "self") none ⟨146,17,146,21⟩), (Arg.mk (τ "index") none ⟨146,23,146,28⟩)] none [] [] none []) (FuncBody.stmts [(Stmt.Assign [(Expr.Attribute (Expr.Name (τ "self") ⟨147,8,147,12⟩) (τ "index") ⟨147,8,147,18⟩)] (Expr.Name (τ "index") ⟨147,21,147,26⟩) ⟨147,8,147,26⟩)]) (Scope.mk ScopeKind.function [((τ "self"), NameKind.local), ((τ "index"), NameKind.local)] Bool.false Bool.false []) 3 [] .none .none .none (Value.str (τ "lastfaces.errors") 187) none (Value.ref 705) .none 0)) #[])
def o707 (P : Params) : Obj := (Obj.mk (Value.type "tuple") none (Data.seq (List.toArray [(Value.str (τ "index") 1102)]) 0) #[])
def o708 (P : Params) : Obj := (Obj.mk (Value.type "dict") none (Data.dict (List.toArray [(DictEntry.mk (η P (τ "__module__")) (Value.str (τ "__module__") 1089) (Value.str (τ "lastfaces.errors") 187)), (DictEntry.mk (η P (τ "__firstlineno__")) (Value.str (τ "__firstlineno__") 1093) (Value.int 144 1092)), (DictEntry.mk (η P (τ "__init__")) (Value.str (τ "__init__") 1101) (Value.ref 706)), (DictEntry.mk (η P (τ "__static_attributes__")) (Value.str (τ "__static_attributes__") 1103) (Value.ref 707)), (DictEntry.mk (η P (τ "__doc__")) (Value.str (τ "__doc__") 1104) .none)]) 2) #[])
def o709 (P : Params) : Obj := (Obj.mk (Value.type "type") none (Data.cls (ClassData.mk (τ "BadSome") [(Value.ref 24)] [(Value.ref 709), (Value.ref 24), (Value.type "ValueError"), (Value.type "Exception"), (Value.type "BaseException"), (Value.type "object")] 708 (τ "BadSome") Bool.true [] [] Bool.false none Bool.false)) (List.toArray [(Option.some (Value.ref 693)), none, (Option.some (Value.str (τ "BadSome") 1082)), (Option.some (Value.str (τ "BadSome") 1090)), (Option.some (Value.builtin "ValueError.__new__")), (Option.some (Value.bool Bool.true))]))
def o710 (P : Params) : Obj := (Obj.mk (Value.type "super") none (Data.fields (List.toArray [(Value.ref 709), (Value.ref 709), (Value.ref 709)])) #[])
def g69 (P : Params) : List Obj := [o701 P, o702 P, o703 P, o704 P, o705 P, o706 P, o707 P, o708 P, o709 P, o710 P]
def o711 (P : Params) : Obj := (Obj.mk (Value.type "builtin_function_or_method") none (Data.fields (List.toArray [(Value.builtin "object.__init_subclass__"), (Value.ref 709)])) #[])
def o712 (P : Params) : Obj := (Obj.mk (Value.type "tuple") none (Data.seq (List.toArray [(Value.ref 24)]) 0) #[])
def o713 (P : Params) : Obj := (Obj.mk (Value.type "builtin_function_or_method") none (Data.fields (List.toArray [(Value.builtin "type.__prepare__"), (Value.type "type")])) #[])
def o714 (P : Params) : Obj := (Obj.mk (Value.type "dict") none (Data.dict (List.toArray [(DictEntry.mk (η P (τ "__module__")) (Value.str (τ "__module__") 1114) (Value.str (τ "lastfaces.errors") 187)), (DictEntry.mk (η P (τ "__qualname__")) (Value.str (τ "__qualname__") 1116) (Value.str (τ "BadStart") 1115)), (DictEntry.mk (η P (τ "__firstlineno__")) (Value.str (τ "__firstlineno__") 1118) (Value.int 148 1117)), (DictEntry.mk (η P (τ "__init__")) (Value.str (τ "__init__") 1126) (Value.ref 725)), (DictEntry.mk (η P (τ "__static_attributes__")) (Value.str (τ "__static_attributes__") 1128) (Value.ref 726))]) 5) #[])
def o715 (P : Params) : Obj := (Obj.mk (Value.type "tuple") none (Data.seq #[] 0) #[])
def o716 (P : Params) : Obj := (Obj.mk .none none (Data.fields (List.toArray [(ι 150), (ι 4), (Value.ref 724)])) #[])
def o717 (P : Params) : Obj := (Obj.mk (Value.type "code") none (Data.fields (List.toArray [(Value.str (τ "BadStart") 1109), (Value.str (τ "BadStart") 1110), (Value.str (τ "/claim/cut.py") 1111), (ι 148), (ι 0), (ι 0), (ι 0), (ι 0), (Value.ref 715), (Value.bool Bool.false), (ι 181), (Value.ref 716), .none, .none, .none, .none, (ι 1112), (ι 148), (Value.str (τ "/claim/cut.py") 1113)])) #[])
def o718 (P : Params) : Obj := (Obj.mk (Value.type "frame") none Data.plain (List.toArray [(Option.some (Value.ref 717)), (Option.some (Value.ref 3)), (Option.some (Value.ref 714)), none, (Option.some (Value.str (τ "lastfaces.errors") 187)), none, (Option.some (Value.ref 0))]))
def o719 (P : Params) : Obj := (Obj.mk (Value.type "tuple") none (Data.seq #[] 0) #[])
def o720 (P : Params) : Obj := (Obj.mk .none none (Data.fields #[]) #[])
def g70 (P : Params) : List Obj := [o711 P, o712 P, o713 P, o714 P, o715 P, o716 P, o717 P, o718 P, o719 P, o720 P]
def o721 (P : Params) : Obj := (Obj.mk (Value.type "tuple") none (Data.seq (List.toArray [(Value.str (τ "self") 1122), (Value.str (τ "thing") 1123)]) 0) #[])
def o722 (P : Params) : Obj := (Obj.mk (Value.type "tuple") none (Data.seq #[] 0) #[])
def o723 (P : Params) : Obj := (Obj.mk .none none (Data.func (FuncData.mk (τ "__init__") (τ "BadStart.__init__") (Arguments.mk [] [(Arg.mk (τ "self") none ⟨150,17,150,21⟩), (Arg.mk (τ "thing") none ⟨150,23,150,28⟩)] none [] [] none []) (FuncBody.stmts [(Stmt.Assign [(Expr.Attribute (Expr.Name (τ "self") ⟨151,8,151,12⟩) (τ "thing") ⟨151,8,151,18⟩)] (Expr.Name (τ "thing") ⟨151,21,151,26⟩) ⟨151,8,151,26⟩)]) (Scope.mk ScopeKind.function [((τ "self"), NameKind.local), ((τ "thing"), NameKind.local)] Bool.false Bool.false []) 0 [] .none .none .none .none none .none .none 0)) #[])
def o724 (P : Params) : Obj := (Obj.mk (Value.type "code") none (Data.fields (List.toArray [(Value.str (τ "__init__") 1119), (Value.str (τ "BadStart.__init__") 1120), (Value.str (τ "/claim/cut.py") 1121), (ι 150), (ι 2), (ι 0), (ι 0), (ι 3), (Value.ref 719), (Value.bool Bool.true), (ι 181), (Value.ref 720), .none, (Value.ref 721), (Value.ref 722), (Value.ref 723), (ι 1124), (ι 150), (Value.str (τ "/claim/cut.py") 1125)])) #[])
def o725 (P : Params) : Obj := (Obj.mk (Value.type "function") none (Data.func (FuncData.mk (τ "__init__") (τ "BadStart.__init__") (Arguments.mk [] [(Arg.mk (τ "self") none ⟨150,17,150,21⟩), (Arg.mk (τ "thing") none ⟨150,23,150,28⟩)] none [] [] none []) (FuncBody.stmts [(Stmt.Assign [(Expr.Attribute (Expr.Name (τ "self") ⟨151,8,151,12⟩) (τ "thing") ⟨151,8,151,18⟩)] (Expr.Name (τ "thing") ⟨151,21,151,26⟩) ⟨151,8,151,26⟩)]) (Scope.mk ScopeKind.function [((τ "self"), NameKind.local), ((τ "thing"), NameKind.local)] Bool.false Bool.false []) 3 [] .none .none .none (Value.str (τ "lastfaces.errors") 187) none (Value.ref 724) .none 0)) #[])
def o726 (P : Params) : Obj := (Obj.mk (Value.type "tuple") none (Data.seq (List.toArray [(Value.str (τ "thing") 1127)]) 0) #[])
def o727 (P : Params) : Obj := (Obj.mk (Value.type "dict") none (Data.dict (List.toArray [(DictEntry.mk (η P (τ "__module__")) (Value.str (τ "__module__") 1114) (Value.str (τ "lastfaces.errors") 187)), (DictEntry.mk (η P (τ "__firstlineno__")) (Value.str (τ "__firstlineno__") 1118) (Value.int 148 1117)), (DictEntry.mk (η P (τ "__init__")) (Value.str (τ "__init__") 1126) (Value.ref 725)), (DictEntry.mk (η P (τ "__static_attributes__")) (Value.str (τ "__static_attributes__") 1128) (Value.ref 726)), (DictEntry.mk (η P (τ "__doc__")) (Value.str (τ "__doc__") 1129) .none)]) 2) #[])
def o728 (P : Params) : Obj := (Obj.mk (Value.type "type") none (Data.cls (ClassData.mk (τ "BadStart") [(Value.ref 24)] [(Value.ref 728), (Value.ref 24), (Value.type "ValueError"), (Value.type "Exception"), (Value.type "BaseException"), (Value.type "object")] 727 (τ "BadStart") Bool.true [] [] Bool.false none Bool.false)) (List.toArray [(Option.some (Value.ref 712)), none, (Option.some (Value.str (τ "BadStart") 1107)), (Option.some (Value.str (τ "BadStart") 1115)), (Option.some (Value.builtin "ValueError.__new__")), (Option.some (Value.bool Bool.true))]))
def o729 (P : Params) : Obj := (Obj.mk (Value.type "super") none (Data.fields (List.toArray [(Value.ref 728), (Value.ref 728), (Value.ref 728)])) #[])
def o730 (P : Params) : Obj := (Obj.mk (Value.type "builtin_function_or_method") none (Data.fields (List.toArray [(Value.builtin "object.__init_subclass__"), (Value.ref 728)])) #[])
def g71 (P : Params) : List Obj := [o721 P, o722 P, o723 P, o724 P, o725 P, o726 P, o727 P, o728 P, o729 P, o730 P]
def o731 (P : Params) : Obj := (Obj.mk (Value.type "tuple") none (Data.seq (List.toArray [(Value.ref 24)]) 0) #[])
def o732 (P : Params) : Obj := (Obj.mk (Value.type "builtin_function_or_method") none (Data.fields (List.toArray [(Value.builtin "type.__prepare__"), (Value.type "type")])) #[])
def o733 (P : Params) : Obj := (Obj.mk (Value.type "dict") none (Data.dict (List.toArray [(DictEntry.mk (η P (τ "__module__")) (Value.str (τ "__module__") 1139) (Value.str (τ "lastfaces.errors") 187)), (DictEntry.mk (η P (τ "__qualname__")) (Value.str (τ "__qualname__") 1141) (Value.str (τ "BadSteps") 1140)), (DictEntry.mk (η P (τ "__firstlineno__")) (Value.str (τ "__firstlineno__") 1143) (Value.int 152 1142)), (DictEntry.mk (η P (τ "__init__")) (Value.str (τ "__init__") 1151) (Value.ref 744)), (DictEntry.mk (η P (τ "__static_attributes__")) (Value.str (τ "__static_attributes__") 1153) (Value.ref 745))]) 5) #[])
def o734 (P : Params) : Obj := (Obj.mk (Value.type "tuple") none (Data.seq #[] 0) #[])
def o735 (P : Params) : Obj := (Obj.mk .none none (Data.fields (List.toArray [(ι 154), (ι 4), (Value.ref 743)])) #[])
def o736 (P : Params) : Obj := (Obj.mk (Value.type "code") none (Data.fields (List.toArray [(Value.str (τ "BadSteps") 1134), (Value.str (τ "BadSteps") 1135), (Value.str (τ "/claim/cut.py") 1136), (ι 152), (ι 0), (ι 0), (ι 0), (ι 0), (Value.ref 734), (Value.bool Bool.false), (ι 181), (Value.ref 735), .none, .none, .none, .none, (ι 1137), (ι 152), (Value.str (τ "/claim/cut.py") 1138)])) #[])
def o737 (P : Params) : Obj := (Obj.mk (Value.type "frame") none Data.plain (List.toArray [(Option.some (Value.ref 736)), (Option.some (Value.ref 3)), (Option.some (Value.ref 733)), none, (Option.some (Value.str (τ "lastfaces.errors") 187)), none, (Option.some (Value.ref 0))]))
def o738 (P : Params) : Obj := (Obj.mk (Value.type "tuple") none (Data.seq #[] 0) #[])
def o739 (P : Params) : Obj := (Obj.mk .none none (Data.fields #[]) #[])
def o740 (P : Params) : Obj := (Obj.mk (Value.type "tuple") none (Data.seq (List.toArray [(Value.str (τ "self") 1147), (Value.str (τ "index") 1148)]) 0) #[])
def g72 (P : Params) : List Obj := [o731 P, o732 P, o733 P, o734 P, o735 P, o736 P, o737 P, o738 P, o739 P, o740 P]
def o741 (P : Params) : Obj := (Obj.mk (Value.type "tuple") none (Data.seq #[] 0) #[])
def o742 (P : Params) : Obj := (Obj.mk .none none (Data.func (FuncData.mk (τ "__init__") (τ "BadSteps.__init__") (Arguments.mk [] [(Arg.mk (τ "self") none ⟨154,17,154,21⟩), (Arg.mk (τ "index") none ⟨154,23,154,28⟩)] none [] [] none []) (FuncBody.stmts [(Stmt.Assign [(Expr.Attribute (Expr.Name (τ "self") ⟨155,8,155,12⟩) (τ "index") ⟨155,8,155,18⟩)] (Expr.Name (τ "index") ⟨155,21,155,26⟩) ⟨155,8,155,26⟩)]) (Scope.mk ScopeKind.function [((τ "self"), NameKind.local), ((τ "index"), NameKind.local)] Bool.false Bool.false []) 0 [] .none .none .none .none none .none .none 0)) #[])
def o743 (P : Params) : Obj := (Obj.mk (Value.type "code") none (Data.fields (List.toArray [(Value.str (τ "__init__") 1144), (Value.str (τ "BadSteps.__init__") 1145), (Value.str (τ "/claim/cut.py") 1146), (ι 154), (ι 2), (ι 0), (ι 0), (ι 3), (Value.ref 738), (Value.bool Bool.true), (ι 181), (Value.ref 739), .none, (Value.ref 740), (Value.ref 741), (Value.ref 742), (ι 1149), (ι 154), (Value.str (τ "/claim/cut.py") 1150)])) #[])
def o744 (P : Params) : Obj := (Obj.mk (Value.type "function") none (Data.func (FuncData.mk (τ "__init__") (τ "BadSteps.__init__") (Arguments.mk [] [(Arg.mk (τ "self") none ⟨154,17,154,21⟩), (Arg.mk (τ "index") none ⟨154,23,154,28⟩)] none [] [] none []) (FuncBody.stmts [(Stmt.Assign [(Expr.Attribute (Expr.Name (τ "self") ⟨155,8,155,12⟩) (τ "index") ⟨155,8,155,18⟩)] (Expr.Name (τ "index") ⟨155,21,155,26⟩) ⟨155,8,155,26⟩)]) (Scope.mk ScopeKind.function [((τ "self"), NameKind.local), ((τ "index"), NameKind.local)] Bool.false Bool.false []) 3 [] .none .none .none (Value.str (τ "lastfaces.errors") 187) none (Value.ref 743) .none 0)) #[])
def o745 (P : Params) : Obj := (Obj.mk (Value.type "tuple") none (Data.seq (List.toArray [(Value.str (τ "index") 1152)]) 0) #[])
def o746 (P : Params) : Obj := (Obj.mk (Value.type "dict") none (Data.dict (List.toArray [(DictEntry.mk (η P (τ "__module__")) (Value.str (τ "__module__") 1139) (Value.str (τ "lastfaces.errors") 187)), (DictEntry.mk (η P (τ "__firstlineno__")) (Value.str (τ "__firstlineno__") 1143) (Value.int 152 1142)), (DictEntry.mk (η P (τ "__init__")) (Value.str (τ "__init__") 1151) (Value.ref 744)), (DictEntry.mk (η P (τ "__static_attributes__")) (Value.str (τ "__static_attributes__") 1153) (Value.ref 745)), (DictEntry.mk (η P (τ "__doc__")) (Value.str (τ "__doc__") 1154) .none)]) 2) #[])
def o747 (P : Params) : Obj := (Obj.mk (Value.type "type") none (Data.cls (ClassData.mk (τ "BadSteps") [(Value.ref 24)] [(Value.ref 747), (Value.ref 24), (Value.type "ValueError"), (Value.type "Exception"), (Value.type "BaseException"), (Value.type "object")] 746 (τ "BadSteps") Bool.true [] [] Bool.false none Bool.false)) (List.toArray [(Option.some (Value.ref 731)), none, (Option.some (Value.str (τ "BadSteps") 1132)), (Option.some (Value.str (τ "BadSteps") 1140)), (Option.some (Value.builtin "ValueError.__new__")), (Option.some (Value.bool Bool.true))]))
def o748 (P : Params) : Obj := (Obj.mk (Value.type "super") none (Data.fields (List.toArray [(Value.ref 747), (Value.ref 747), (Value.ref 747)])) #[])
def o749 (P : Params) : Obj := (Obj.mk (Value.type "builtin_function_or_method") none (Data.fields (List.toArray [(Value.builtin "object.__init_subclass__"), (Value.ref 747)])) #[])
def o750 (P : Params) : Obj := (Obj.mk (Value.type "tuple") none (Data.seq (List.toArray [(Value.ref 24)]) 0) #[])
def g73 (P : Params) : List Obj := [o741 P, o742 P, o743 P, o744 P, o745 P, o746 P, o747 P, o748 P, o749 P, o750 P]
def o751 (P : Params) : Obj := (Obj.mk (Value.type "builtin_function_or_method") none (Data.fields (List.toArray [(Value.builtin "type.__prepare__"), (Value.type "type")])) #[])
def o752 (P : Params) : Obj := (Obj.mk (Value.type "dict") none (Data.dict (List.toArray [(DictEntry.mk (η P (τ "__module__")) (Value.str (τ "__module__") 1164) (Value.str (τ "lastfaces.errors") 187)), (DictEntry.mk (η P (τ "__qualname__")) (Value.str (τ "__qualname__") 1166) (Value.str (τ "BadText") 1165)), (DictEntry.mk (η P (τ "__firstlineno__")) (Value.str (τ "__firstlineno__") 1168) (Value.int 156 1167)), (DictEntry.mk (η P (τ "__init__")) (Value.str (τ "__init__") 1176) (Value.ref 763)), (DictEntry.mk (η P (τ "__static_attributes__")) (Value.str (τ "__static_attributes__") 1178) (Value.ref 764))]) 5) #[])
def o753 (P : Params) : Obj := (Obj.mk (Value.type "tuple") none (Data.seq #[] 0) #[])
def o754 (P : Params) : Obj := (Obj.mk .none none (Data.fields (List.toArray [(ι 158), (ι 4), (Value.ref 762)])) #[])
def o755 (P : Params) : Obj := (Obj.mk (Value.type "code") none (Data.fields (List.toArray [(Value.str (τ "BadText") 1159), (Value.str (τ "BadText") 1160), (Value.str (τ "/claim/cut.py") 1161), (ι 156), (ι 0), (ι 0), (ι 0), (ι 0), (Value.ref 753), (Value.bool Bool.false), (ι 181), (Value.ref 754), .none, .none, .none, .none, (ι 1162), (ι 156), (Value.str (τ "/claim/cut.py") 1163)])) #[])
def o756 (P : Params) : Obj := (Obj.mk (Value.type "frame") none Data.plain (List.toArray [(Option.some (Value.ref 755)), (Option.some (Value.ref 3)), (Option.some (Value.ref 752)), none, (Option.some (Value.str (τ "lastfaces.errors") 187)), none, (Option.some (Value.ref 0))]))
def o757 (P : Params) : Obj := (Obj.mk (Value.type "tuple") none (Data.seq #[] 0) #[])
def o758 (P : Params) : Obj := (Obj.mk .none none (Data.fields #[]) #[])
def o759 (P : Params) : Obj := (Obj.mk (Value.type "tuple") none (Data.seq (List.toArray [(Value.str (τ "self") 1172), (Value.str (τ "line") 1173)]) 0) #[])
def o760 (P : Params) : Obj := (Obj.mk (Value.type "tuple") none (Data.seq #[] 0) #[])
def g74 (P : Params) : List Obj := [o751 P, o752 P, o753 P, o754 P, o755 P, o756 P, o757 P, o758 P, o759 P, o760 P]
def o761 (P : Params) : Obj := (Obj.mk .none none (Data.func (FuncData.mk (τ "__init__") (τ "BadText.__init__") (Arguments.mk [] [(Arg.mk (τ "self") none ⟨158,17,158,21⟩), (Arg.mk (τ "line") none ⟨158,23,158,27⟩)] none [] [] none []) (FuncBody.stmts [(Stmt.Assign [(Expr.Attribute (Expr.Name (τ "self") ⟨159,8,159,12⟩) (τ "line") ⟨159,8,159,17⟩)] (Expr.Name (τ "line") ⟨159,20,159,24⟩) ⟨159,8,159,24⟩)]) (Scope.mk ScopeKind.function [((τ "self"), NameKind.local), ((τ "line"), NameKind.local)] Bool.false Bool.false []) 0 [] .none .none .none .none none .none .none 0)) #[])
def o762 (P : Params) : Obj := (Obj.mk (Value.type "code") none (Data.fields (List.toArray [(Value.str (τ "__init__") 1169), (Value.str (τ "BadText.__init__") 1170), (Value.str (τ "/claim/cut.py") 1171), (ι 158), (ι 2), (ι 0), (ι 0), (ι 3), (Value.ref 757), (Value.bool Bool.true), (ι 181), (Value.ref 758), .none, (Value.ref 759), (Value.ref 760), (Value.ref 761), (ι 1174), (ι 158), (Value.str (τ "/claim/cut.py") 1175)])) #[])
def o763 (P : Params) : Obj := (Obj.mk (Value.type "function") none (Data.func (FuncData.mk (τ "__init__") (τ "BadText.__init__") (Arguments.mk [] [(Arg.mk (τ "self") none ⟨158,17,158,21⟩), (Arg.mk (τ "line") none ⟨158,23,158,27⟩)] none [] [] none []) (FuncBody.stmts [(Stmt.Assign [(Expr.Attribute (Expr.Name (τ "self") ⟨159,8,159,12⟩) (τ "line") ⟨159,8,159,17⟩)] (Expr.Name (τ "line") ⟨159,20,159,24⟩) ⟨159,8,159,24⟩)]) (Scope.mk ScopeKind.function [((τ "self"), NameKind.local), ((τ "line"), NameKind.local)] Bool.false Bool.false []) 3 [] .none .none .none (Value.str (τ "lastfaces.errors") 187) none (Value.ref 762) .none 0)) #[])
def o764 (P : Params) : Obj := (Obj.mk (Value.type "tuple") none (Data.seq (List.toArray [(Value.str (τ "line") 1177)]) 0) #[])
def o765 (P : Params) : Obj := (Obj.mk (Value.type "dict") none (Data.dict (List.toArray [(DictEntry.mk (η P (τ "__module__")) (Value.str (τ "__module__") 1164) (Value.str (τ "lastfaces.errors") 187)), (DictEntry.mk (η P (τ "__firstlineno__")) (Value.str (τ "__firstlineno__") 1168) (Value.int 156 1167)), (DictEntry.mk (η P (τ "__init__")) (Value.str (τ "__init__") 1176) (Value.ref 763)), (DictEntry.mk (η P (τ "__static_attributes__")) (Value.str (τ "__static_attributes__") 1178) (Value.ref 764)), (DictEntry.mk (η P (τ "__doc__")) (Value.str (τ "__doc__") 1179) .none)]) 2) #[])
def o766 (P : Params) : Obj := (Obj.mk (Value.type "type") none (Data.cls (ClassData.mk (τ "BadText") [(Value.ref 24)] [(Value.ref 766), (Value.ref 24), (Value.type "ValueError"), (Value.type "Exception"), (Value.type "BaseException"), (Value.type "object")] 765 (τ "BadText") Bool.true [] [] Bool.false none Bool.false)) (List.toArray [(Option.some (Value.ref 750)), none, (Option.some (Value.str (τ "BadText") 1157)), (Option.some (Value.str (τ "BadText") 1165)), (Option.some (Value.builtin "ValueError.__new__")), (Option.some (Value.bool Bool.true))]))
def o767 (P : Params) : Obj := (Obj.mk (Value.type "super") none (Data.fields (List.toArray [(Value.ref 766), (Value.ref 766), (Value.ref 766)])) #[])
def o768 (P : Params) : Obj := (Obj.mk (Value.type "builtin_function_or_method") none (Data.fields (List.toArray [(Value.builtin "object.__init_subclass__"), (Value.ref 766)])) #[])
def o769 (P : Params) : Obj := (Obj.mk (Value.type "tuple") none (Data.seq (List.toArray [(Value.ref 24)]) 0) #[])
def o770 (P : Params) : Obj := (Obj.mk (Value.type "builtin_function_or_method") none (Data.fields (List.toArray [(Value.builtin "type.__prepare__"), (Value.type "type")])) #[])
def g75 (P : Params) : List Obj := [o761 P, o762 P, o763 P, o764 P, o765 P, o766 P, o767 P, o768 P, o769 P, o770 P]
def o771 (P : Params) : Obj := (Obj.mk (Value.type "dict") none (Data.dict (List.toArray [(DictEntry.mk (η P (τ "__module__")) (Value.str (τ "__module__") 1189) (Value.str (τ "lastfaces.errors") 187)), (DictEntry.mk (η P (τ "__qualname__")) (Value.str (τ "__qualname__") 1191) (Value.str (τ "BadTurns") 1190)), (DictEntry.mk (η P (τ "__firstlineno__")) (Value.str (τ "__firstlineno__") 1193) (Value.int 160 1192)), (DictEntry.mk (η P (τ "__init__")) (Value.str (τ "__init__") 1201) (Value.ref 782)), (DictEntry.mk (η P (τ "__static_attributes__")) (Value.str (τ "__static_attributes__") 1203) (Value.ref 783))]) 5) #[])
def o772 (P : Params) : Obj := (Obj.mk (Value.type "tuple") none (Data.seq #[] 0) #[])
def o773 (P : Params) : Obj := (Obj.mk .none none (Data.fields (List.toArray [(ι 162), (ι 4), (Value.ref 781)])) #[])
def o774 (P : Params) : Obj := (Obj.mk (Value.type "code") none (Data.fields (List.toArray [(Value.str (τ "BadTurns") 1184), (Value.str (τ "BadTurns") 1185), (Value.str (τ "/claim/cut.py") 1186), (ι 160), (ι 0), (ι 0), (ι 0), (ι 0), (Value.ref 772), (Value.bool Bool.false), (ι 181), (Value.ref 773), .none, .none, .none, .none, (ι 1187), (ι 160), (Value.str (τ "/claim/cut.py") 1188)])) #[])
def o775 (P : Params) : Obj := (Obj.mk (Value.type "frame") none Data.plain (List.toArray [(Option.some (Value.ref 774)), (Option.some (Value.ref 3)), (Option.some (Value.ref 771)), none, (Option.some (Value.str (τ "lastfaces.errors") 187)), none, (Option.some (Value.ref 0))]))
def o776 (P : Params) : Obj := (Obj.mk (Value.type "tuple") none (Data.seq #[] 0) #[])
def o777 (P : Params) : Obj := (Obj.mk .none none (Data.fields #[]) #[])
def o778 (P : Params) : Obj := (Obj.mk (Value.type "tuple") none (Data.seq (List.toArray [(Value.str (τ "self") 1197), (Value.str (τ "index") 1198)]) 0) #[])
def o779 (P : Params) : Obj := (Obj.mk (Value.type "tuple") none (Data.seq #[] 0) #[])
def o780 (P : Params) : Obj := (Obj.mk .none none (Data.func (FuncData.mk (τ "__init__") (τ "BadTurns.__init__") (Arguments.mk [] [(Arg.mk (τ "self") none ⟨162,17,162,21⟩), (Arg.mk (τ "index") none ⟨162,23,162,28⟩)] none [] [] none []) (FuncBody.stmts [(Stmt.Assign [(Expr.Attribute (Expr.Name (τ "self") ⟨163,8,163,12⟩) (τ "index") ⟨163,8,163,18⟩)] (Expr.Name (τ "index") ⟨163,21,163,26⟩) ⟨163,8,163,26⟩)]) (Scope.mk ScopeKind.function [((τ "self"), NameKind.local), ((τ "index"), NameKind.local)] Bool.false Bool.false []) 0 [] .none .none .none .none none .none .none 0)) #[])
def g76 (P : Params) : List Obj := [o771 P, o772 P, o773 P, o774 P, o775 P, o776 P, o777 P, o778 P, o779 P, o780 P]
def o781 (P : Params) : Obj := (Obj.mk (Value.type "code") none (Data.fields (List.toArray [(Value.str (τ "__init__") 1194), (Value.str (τ "BadTurns.__init__") 1195), (Value.str (τ "/claim/cut.py") 1196), (ι 162), (ι 2), (ι 0), (ι 0), (ι 3), (Value.ref 776), (Value.bool Bool.true), (ι 181), (Value.ref 777), .none, (Value.ref 778), (Value.ref 779), (Value.ref 780), (ι 1199), (ι 162), (Value.str (τ "/claim/cut.py") 1200)])) #[])
def o782 (P : Params) : Obj := (Obj.mk (Value.type "function") none (Data.func (FuncData.mk (τ "__init__") (τ "BadTurns.__init__") (Arguments.mk [] [(Arg.mk (τ "self") none ⟨162,17,162,21⟩), (Arg.mk (τ "index") none ⟨162,23,162,28⟩)] none [] [] none []) (FuncBody.stmts [(Stmt.Assign [(Expr.Attribute (Expr.Name (τ "self") ⟨163,8,163,12⟩) (τ "index") ⟨163,8,163,18⟩)] (Expr.Name (τ "index") ⟨163,21,163,26⟩) ⟨163,8,163,26⟩)]) (Scope.mk ScopeKind.function [((τ "self"), NameKind.local), ((τ "index"), NameKind.local)] Bool.false Bool.false []) 3 [] .none .none .none (Value.str (τ "lastfaces.errors") 187) none (Value.ref 781) .none 0)) #[])
def o783 (P : Params) : Obj := (Obj.mk (Value.type "tuple") none (Data.seq (List.toArray [(Value.str (τ "index") 1202)]) 0) #[])
def o784 (P : Params) : Obj := (Obj.mk (Value.type "dict") none (Data.dict (List.toArray [(DictEntry.mk (η P (τ "__module__")) (Value.str (τ "__module__") 1189) (Value.str (τ "lastfaces.errors") 187)), (DictEntry.mk (η P (τ "__firstlineno__")) (Value.str (τ "__firstlineno__") 1193) (Value.int 160 1192)), (DictEntry.mk (η P (τ "__init__")) (Value.str (τ "__init__") 1201) (Value.ref 782)), (DictEntry.mk (η P (τ "__static_attributes__")) (Value.str (τ "__static_attributes__") 1203) (Value.ref 783)), (DictEntry.mk (η P (τ "__doc__")) (Value.str (τ "__doc__") 1204) .none)]) 2) #[])
def o785 (P : Params) : Obj := (Obj.mk (Value.type "type") none (Data.cls (ClassData.mk (τ "BadTurns") [(Value.ref 24)] [(Value.ref 785), (Value.ref 24), (Value.type "ValueError"), (Value.type "Exception"), (Value.type "BaseException"), (Value.type "object")] 784 (τ "BadTurns") Bool.true [] [] Bool.false none Bool.false)) (List.toArray [(Option.some (Value.ref 769)), none, (Option.some (Value.str (τ "BadTurns") 1182)), (Option.some (Value.str (τ "BadTurns") 1190)), (Option.some (Value.builtin "ValueError.__new__")), (Option.some (Value.bool Bool.true))]))
def o786 (P : Params) : Obj := (Obj.mk (Value.type "super") none (Data.fields (List.toArray [(Value.ref 785), (Value.ref 785), (Value.ref 785)])) #[])
def o787 (P : Params) : Obj := (Obj.mk (Value.type "builtin_function_or_method") none (Data.fields (List.toArray [(Value.builtin "object.__init_subclass__"), (Value.ref 785)])) #[])
def o788 (P : Params) : Obj := (Obj.mk (Value.type "tuple") none (Data.seq (List.toArray [(Value.ref 24)]) 0) #[])
def o789 (P : Params) : Obj := (Obj.mk (Value.type "builtin_function_or_method") none (Data.fields (List.toArray [(Value.builtin "type.__prepare__"), (Value.type "type")])) #[])
def o790 (P : Params) : Obj := (Obj.mk (Value.type "dict") none (Data.dict (List.toArray [(DictEntry.mk (η P (τ "__module__")) (Value.str (τ "__module__") 1214) (Value.str (τ "lastfaces.errors") 187)), (DictEntry.mk (η P (τ "__qualname__")) (Value.str (τ "__qualname__") 1216) (Value.str (τ "BadWishes") 1215)), (DictEntry.mk (η P (τ "__firstlineno__")) (Value.str (τ "__firstlineno__") 1218) (Value.int 164 1217)), (DictEntry.mk (η P (τ "__init__")) (Value.str (τ "__init__") 1226) (Value.ref 801)), (DictEntry.mk (η P (τ "__static_attributes__")) (Value.str (τ "__static_attributes__") 1228) (Value.ref 802))]) 5) #[])
def g77 (P : Params) : List Obj := [o781 P, o782 P, o783 P, o784 P, o785 P, o786 P, o787 P, o788 P, o789 P, o790 P]
def o791 (P : Params) : Obj := (Obj.mk (Value.type "tuple") none (Data.seq #[] 0) #[])
def o792 (P : Params) : Obj := (Obj.mk .none none (Data.fields (List.toArray [(ι 166), (ι 4), (Value.ref 800)])) #[])
def o793 (P : Params) : Obj := (Obj.mk (Value.type "code") none (Data.fields (List.toArray [(Value.str (τ "BadWishes") 1209), (Value.str (τ "BadWishes") 1210), (Value.str (τ "/claim/cut.py") 1211), (ι 164), (ι 0), (ι 0), (ι 0), (ι 0), (Value.ref 791), (Value.bool Bool.false), (ι 181), (Value.ref 792), .none, .none, .none, .none, (ι 1212), (ι 164), (Value.str (τ "/claim/cut.py") 1213)])) #[])
def o794 (P : Params) : Obj := (Obj.mk (Value.type "frame") none Data.plain (List.toArray [(Option.some (Value.ref 793)), (Option.some (Value.ref 3)), (Option.some (Value.ref 790)), none, (Option.some (Value.str (τ "lastfaces.errors") 187)), none, (Option.some (Value.ref 0))]))
def o795 (P : Params) : Obj := (Obj.mk (Value.type "tuple") none (Data.seq #[] 0) #[])
def o796 (P : Params) : Obj := (Obj.mk .none none (Data.fields #[]) #[])
def o797 (P : Params) : Obj := (Obj.mk (Value.type "tuple") none (Data.seq (List.toArray [(Value.str (τ "self") 1222), (Value.str (τ "index") 1223)]) 0) #[])
def o798 (P : Params) : Obj := (Obj.mk (Value.type "tuple") none (Data.seq #[] 0) #[])
def o799 (P : Params) : Obj := (Obj.mk .none none (Data.func (FuncData.mk (τ "__init__") (τ "BadWishes.__init__") (Arguments.mk [] [(Arg.mk (τ "self") none ⟨166,17,166,21⟩), (Arg.mk (τ "index") none ⟨166,23,166,28⟩)] none [] [] none []) (FuncBody.stmts [(Stmt.Assign [(Expr.Attribute (Expr.Name (τ "self") ⟨167,8,167,12⟩) (τ "index") ⟨167,8,167,18⟩)] (Expr.Name (τ "index") ⟨167,21,167,26⟩) ⟨167,8,167,26⟩)]) (Scope.mk ScopeKind.function [((τ "self"), NameKind.local), ((τ "index"), NameKind.local)] Bool.false Bool.false []) 0 [] .none .none .none .none none .none .none 0)) #[])
def o800 (P : Params) : Obj := (Obj.mk (Value.type "code") none (Data.fields (List.toArray [(Value.str (τ "__init__") 1219), (Value.str (τ "BadWishes.__init__") 1220), (Value.str (τ "/claim/cut.py") 1221), (ι 166), (ι 2), (ι 0), (ι 0), (ι 3), (Value.ref 795), (Value.bool Bool.true), (ι 181), (Value.ref 796), .none, (Value.ref 797), (Value.ref 798), (Value.ref 799), (ι 1224), (ι 166), (Value.str (τ "/claim/cut.py") 1225)])) #[])
def g78 (P : Params) : List Obj := [o791 P, o792 P, o793 P, o794 P, o795 P, o796 P, o797 P, o798 P, o799 P, o800 P]
def o801 (P : Params) : Obj := (Obj.mk (Value.type "function") none (Data.func (FuncData.mk (τ "__init__") (τ "BadWishes.__init__") (Arguments.mk [] [(Arg.mk (τ "self") none ⟨166,17,166,21⟩), (Arg.mk (τ "index") none ⟨166,23,166,28⟩)] none [] [] none []) (FuncBody.stmts [(Stmt.Assign [(Expr.Attribute (Expr.Name (τ "self") ⟨167,8,167,12⟩) (τ "index") ⟨167,8,167,18⟩)] (Expr.Name (τ "index") ⟨167,21,167,26⟩) ⟨167,8,167,26⟩)]) (Scope.mk ScopeKind.function [((τ "self"), NameKind.local), ((τ "index"), NameKind.local)] Bool.false Bool.false []) 3 [] .none .none .none (Value.str (τ "lastfaces.errors") 187) none (Value.ref 800) .none 0)) #[])
def o802 (P : Params) : Obj := (Obj.mk (Value.type "tuple") none (Data.seq (List.toArray [(Value.str (τ "index") 1227)]) 0) #[])
def o803 (P : Params) : Obj := (Obj.mk (Value.type "dict") none (Data.dict (List.toArray [(DictEntry.mk (η P (τ "__module__")) (Value.str (τ "__module__") 1214) (Value.str (τ "lastfaces.errors") 187)), (DictEntry.mk (η P (τ "__firstlineno__")) (Value.str (τ "__firstlineno__") 1218) (Value.int 164 1217)), (DictEntry.mk (η P (τ "__init__")) (Value.str (τ "__init__") 1226) (Value.ref 801)), (DictEntry.mk (η P (τ "__static_attributes__")) (Value.str (τ "__static_attributes__") 1228) (Value.ref 802)), (DictEntry.mk (η P (τ "__doc__")) (Value.str (τ "__doc__") 1229) .none)]) 2) #[])
def o804 (P : Params) : Obj := (Obj.mk (Value.type "type") none (Data.cls (ClassData.mk (τ "BadWishes") [(Value.ref 24)] [(Value.ref 804), (Value.ref 24), (Value.type "ValueError"), (Value.type "Exception"), (Value.type "BaseException"), (Value.type "object")] 803 (τ "BadWishes") Bool.true [] [] Bool.false none Bool.false)) (List.toArray [(Option.some (Value.ref 788)), none, (Option.some (Value.str (τ "BadWishes") 1207)), (Option.some (Value.str (τ "BadWishes") 1215)), (Option.some (Value.builtin "ValueError.__new__")), (Option.some (Value.bool Bool.true))]))
def o805 (P : Params) : Obj := (Obj.mk (Value.type "super") none (Data.fields (List.toArray [(Value.ref 804), (Value.ref 804), (Value.ref 804)])) #[])
def o806 (P : Params) : Obj := (Obj.mk (Value.type "builtin_function_or_method") none (Data.fields (List.toArray [(Value.builtin "object.__init_subclass__"), (Value.ref 804)])) #[])
def o807 (P : Params) : Obj := (Obj.mk (Value.type "tuple") none (Data.seq (List.toArray [(Value.ref 24)]) 0) #[])
def o808 (P : Params) : Obj := (Obj.mk (Value.type "builtin_function_or_method") none (Data.fields (List.toArray [(Value.builtin "type.__prepare__"), (Value.type "type")])) #[])
def o809 (P : Params) : Obj := (Obj.mk (Value.type "dict") none (Data.dict (List.toArray [(DictEntry.mk (η P (τ "__module__")) (Value.str (τ "__module__") 1239) (Value.str (τ "lastfaces.errors") 187)), (DictEntry.mk (η P (τ "__qualname__")) (Value.str (τ "__qualname__") 1241) (Value.str (τ "CanBeTold") 1240)), (DictEntry.mk (η P (τ "__firstlineno__")) (Value.str (τ "__firstlineno__") 1243) (Value.int 168 1242)), (DictEntry.mk (η P (τ "__static_attributes__")) (Value.str (τ "__static_attributes__") 1244) (Value.ref 814))]) 4) #[])
def o810 (P : Params) : Obj := (Obj.mk (Value.type "tuple") none (Data.seq #[] 0) #[])
def g79 (P : Params) : List Obj := [o801 P, o802 P, o803 P, o804 P, o805 P, o806 P, o807 P, o808 P, o809 P, o810 P]
def o811 (P : Params) : Obj := (Obj.mk .none none (Data.fields #[]) #[])
def o812 (P : Params) : Obj := (Obj.mk (Value.type "code") none (Data.fields (List.toArray [(Value.str (τ "CanBeTold") 1234), (Value.str (τ "CanBeTold") 1235), (Value.str (τ "/claim/cut.py") 1236), (ι 168), (ι 0), (ι 0), (ι 0), (ι 0), (Value.ref 810), (Value.bool Bool.false), (ι 181), (Value.ref 811), .none, .none, .none, .none, (ι 1237), (ι 168), (Value.str (τ "/claim/cut.py") 1238)])) #[])
def o813 (P : Params) : Obj := (Obj.mk (Value.type "frame") none Data.plain (List.toArray [(Option.some (Value.ref 812)), (Option.some (Value.ref 3)), (Option.some (Value.ref 809)), none, (Option.some (Value.str (τ "lastfaces.errors") 187)), none, (Option.some (Value.ref 0))]))
def o814 (P : Params) : Obj := (Obj.mk (Value.type "tuple") none (Data.seq #[] 0) #[])
def o815 (P : Params) : Obj := (Obj.mk (Value.type "dict") none (Data.dict (List.toArray [(DictEntry.mk (η P (τ "__module__")) (Value.str (τ "__module__") 1239) (Value.str (τ "lastfaces.errors") 187)), (DictEntry.mk (η P (τ "__firstlineno__")) (Value.str (τ "__firstlineno__") 1243) (Value.int 168 1242)), (DictEntry.mk (η P (τ "__static_attributes__")) (Value.str (τ "__static_attributes__") 1244) (Value.ref 814)), (DictEntry.mk (η P (τ "__doc__")) (Value.str (τ "__doc__") 1245) .none)]) 2) #[])
def o816 (P : Params) : Obj := (Obj.mk (Value.type "type") none (Data.cls (ClassData.mk (τ "CanBeTold") [(Value.ref 24)] [(Value.ref 816), (Value.ref 24), (Value.type "ValueError"), (Value.type "Exception"), (Value.type "BaseException"), (Value.type "object")] 815 (τ "CanBeTold") Bool.true [] [] Bool.false none Bool.false)) (List.toArray [(Option.some (Value.ref 807)), none, (Option.some (Value.str (τ "CanBeTold") 1232)), (Option.some (Value.str (τ "CanBeTold") 1240)), (Option.some (Value.builtin "ValueError.__new__")), (Option.some (Value.bool Bool.true))]))
def o817 (P : Params) : Obj := (Obj.mk (Value.type "super") none (Data.fields (List.toArray [(Value.ref 816), (Value.ref 816), (Value.ref 816)])) #[])
def o818 (P : Params) : Obj := (Obj.mk (Value.type "builtin_function_or_method") none (Data.fields (List.toArray [(Value.builtin "object.__init_subclass__"), (Value.ref 816)])) #[])
def g80 (P : Params) : List Obj := [o811 P, o812 P, o813 P, o814 P, o815 P, o816 P, o817 P, o818 P]
def bs (P : Params) : List Obj := [bo P 0, bo P 1, bo P 2, o3 P, bo P 4, bo P 5, bo P 6, bo P 7, bo P 8, bo P 9, bo P 10]
def objs (P : Params) : List Obj := bs P ++ g0 P ++ (g1 P ++ (g2 P ++ (g3 P ++ (g4 P ++ (g5 P ++ (g6 P ++ (g7 P ++ (g8 P ++ (g9 P ++ (g10 P ++ (g11 P ++ (g12 P ++ (g13 P ++ (g14 P ++ (g15 P ++ (g16 P ++ (g17 P ++ (g18 P ++ (g19 P ++ (g20 P ++ (g21 P ++ (g22 P ++ (g23 P ++ (g24 P ++ (g25 P ++ (g26 P ++ (g27 P ++ (g28 P ++ (g29 P ++ (g30 P ++ (g31 P ++ (g32 P ++ (g33 P ++ (g34 P ++ (g35 P ++ (g36 P ++ (g37 P ++ (g38 P ++ (g39 P ++ (g40 P ++ (g41 P ++ (g42 P ++ (g43 P ++ (g44 P ++ (g45 P ++ (g46 P ++ (g47 P ++ (g48 P ++ (g49 P ++ (g50 P ++ (g51 P ++ (g52 P ++ (g53 P ++ (g54 P ++ (g55 P ++ (g56 P ++ (g57 P ++ (g58 P ++ (g59 P ++ (g60 P ++ (g61 P ++ (g62 P ++ (g63 P ++ (g64 P ++ (g65 P ++ (g66 P ++ (g67 P ++ (g68 P ++ (g69 P ++ (g70 P ++ (g71 P ++ (g72 P ++ (g73 P ++ (g74 P ++ (g75 P ++ (g76 P ++ (g77 P ++ (g78 P ++ (g79 P ++ (g80 P))))))))))))))))))))))))))))))))))))))))))))))))))))))))))))))))))))))))))))))))
def tree (P : Params) : BT := match HandSHeadRun.putAll (objs P) .nil 0 with
  | some (t, _) => t
  | none => .nil
/-- the state -/
def S (w : World) (os : OsState) : SharedT := ⟨tree w.params, 819, (boot_heap w.params).life, #[], boot_drawn, 1248, os⟩
end Mid
end K0
end
end T_K0Mid
section T_K0Run
set_option Elab.async false
set_option linter.all false
set_option maxRecDepth 100000
set_option maxHeartbeats 0
/-! The top in two halves, a state written out between. -/
noncomputable section
namespace K0
namespace Mid
open PySem PySem.W PySem.Calls PyProof.Rows HandSHeadRun
section
variable (st : SharedT → Thread → Option (SharedT × Thread)) (n0 : Nat) (ann : Option Value)
/-- a piece of the top, to its end -/
def segR : Nat → SharedT → Thread → Option (SharedT × Code × Pos)
  | 0, _, _ => none
  | m + 1, s, t => match endAt 1 t with
    | some .next => some (s, t.code, t.pos)
    | some _ => none
    | none => match stepOk n0 ann t with
      | true => match st s t with
        | some (s', t') => frS s' fun z => segR m z t'
        | none => none
      | false => none
/-- so many steps of the top -/
def goK : Nat → SharedT → Thread → Option (SharedT × Thread)
  | 0, s, t => some (s, t)
  | m + 1, s, t => match through t, stepOk n0 ann t with
    | false, true => match st s t with
      | some (s', t') => frS s' fun z => goK m z t'
      | none => none
    | _, _ => none
end
variable {tb : String → Option Builtin} {p : Program} {w : World} {n0 : Nat} {ann : Option Value}
theorem segR_ok : ∀ {m : Nat} {s s' : SharedT} {t : Thread} {c : Code} {q : Pos}, segR (stepT (denote tb) p w) n0 ann m s t = some (s', c, q) → segRun tb p w n0 ann 1 m s.abs t = some (.next, s'.abs, c, q)
  | 0, _, _, _, _, _, h => by cases h
  | m + 1, s, s', t, c, q, h => by
    unfold segR at h
    unfold segRun
    cases e : endAt 1 t with
    | some f =>
      rw [e] at h
      cases f <;> cases h
      rfl
    | none =>
      rw [e] at h
      dsimp only at h ⊢
      cases k : stepOk n0 ann t with
      | false =>
        rw [k] at h
        cases h
      | true =>
        rw [k] at h
        dsimp only at h ⊢
        cases z : stepT (denote tb) p w s t with
        | none =>
          rw [z] at h
          cases h
        | some r =>
          obtain ⟨s2, t2⟩ := r
          rw [z] at h
          dsimp only at h
          rw [frS_eq] at h
          rw [stepT_spec z]
          exact segR_ok h
theorem goK_ok : ∀ {m : Nat} {s s' : SharedT} {t t' : Thread}, goK (stepT (denote tb) p w) n0 ann m s t = some (s', t') → topGo tb p w n0 ann m s.abs t = some (s'.abs, t')
  | 0, _, _, _, _, h => by
    cases h
    rfl
  | m + 1, s, s', t, t', h => by
    unfold goK at h
    unfold topGo
    cases e : through t with
    | true =>
      rw [e] at h
      cases k : stepOk n0 ann t <;> (rw [k] at h; cases h)
    | false =>
      rw [e] at h
      cases k : stepOk n0 ann t with
      | false =>
        rw [k] at h
        cases h
      | true =>
        rw [k] at h
        dsimp only at h ⊢
        cases z : stepT (denote tb) p w s t with
        | none =>
          rw [z] at h
          cases h
        | some r =>
          obtain ⟨s2, t2⟩ := r
          rw [z] at h
          dsimp only at h
          rw [frS_eq] at h
          rw [stepT_spec z]
          exact goK_ok h
/-! ### the pieces of this top -/
abbrev Ro : OpenRow := OpenLaw.row PySem.Challenge.rw_lastfaces_k00_errors_made
abbrev Pr : Program := PySem.Challenge.pw_lastfaces_k00_errors_made
def B : List Stmt := behindTheImports Pr
def ev : Env := { scope := Pr.main.scope, locals := mainNs, globals := mainNs, cells := [], code := .ref 13, frame := some 14 }
abbrev z0 : Pos := ⟨0, 0, 0, 0⟩
abbrev zc : Pos := ⟨168, 0, 169, 8⟩
abbrev exQ : List Stmt → Env → Sem Flow := PySem.W.Fast.tw12563942051412417395
theorem exQ_eq : @execs = exQ := PySem.W.Fast.te12563942051412417395
abbrev stQ (w : World) := stepQ (denQ tabQ) Pr w
/-- the boot's state -/
def S0 (w : World) (os : OsState) : SharedT := ⟨(match putAll (boot_heap w.params).objs.toList .nil 0 with
  | some (t, _) => t
  | none => .nil), 11, (boot_heap w.params).life, #[], boot_drawn, boot_toks, os⟩
/-- behind the frame's making -/
def SA (w : World) (os : OsState) : SharedT := match goK (stQ w) 11 (bootAnn w) 12 (S0 w os) (topStub Pr) with
  | some (s, _) => s
  | none => S0 w os
theorem pre (w : World) (os : OsState) : goK (stQ w) 11 (bootAnn w) 12 (S0 w os) (topStub Pr) = some (SA w os, ⟨denQ tabQ (.body B ev), .body B ev, z0, [topFrame z0]⟩) := by kernel_rfl
theorem block (w : World) (os : OsState) : segR (stQ w) 11 (bootAnn w) 1 (SA w os) (blockOf B ev (.body B ev) z0 [topFrame z0]) = some (SA w os, .body B ev, z0) := by kernel_rfl
end Mid
end K0
end
end T_K0Run
section T_K0HalfA
set_option Elab.async false
set_option linter.all false
set_option maxRecDepth 100000
set_option maxHeartbeats 0
noncomputable section
namespace K0
namespace Mid
open PySem PySem.W PySem.Calls PyProof.Rows HandSHeadRun
theorem half (w : World) (os : OsState) : segR (stQ w) 11 (bootAnn w) 10460 (SA w os) ⟨(exQ (B.take 44) ev).wrap doneF deadEnd id id, .body B ev, z0, [topFrame z0]⟩ = some (S w os, .body B ev, zc) := by kernel_rfl
end Mid
end K0
end
end T_K0HalfA
section T_FragM
set_option Elab.async false
set_option linter.all false
set_option maxRecDepth 100000
set_option maxHeartbeats 4000000
/-! Facts of a small written part hold of a larger one; a Hook by small parts. -/
namespace FM
open PySem PySem.Spec PySem.W PyProof.Rows L2
/-- all that K1 tells K2 tells too -/
def Sub (K1 K2 : Frag) : Prop := ∀ a o, K1.lookup a = some o → K2.lookup a = some o
section
variable {K1 K2 : Frag}
theorem nsIn_up (S : Sub K1 K2) {N : Addr} {x : Str} {r : Option Value} (e : nsIn K1 N x = some r) : nsIn K2 N x = some r := by
  unfold nsIn at e ⊢
  cases q : K1.lookup N with
  | none => rw [q] at e; cases e
  | some o => rw [q] at e; rw [S _ _ q]; exact e
theorem ownIn_up (S : Sub K1 K2) {x : Str} {v : Value} {r : Option Value} (e : ownIn K1 x v = some r) : ownIn K2 x v = some r := by
  cases v with
  | ref a =>
    unfold ownIn at e ⊢
    dsimp only at e ⊢
    cases q : K1.lookup a with
    | none => rw [q] at e; cases e
    | some o =>
      rw [q] at e
      rw [S _ _ q]
      obtain ⟨oc, od, dt, sl⟩ := o
      cases dt with
      | cls cd => exact nsIn_up S e
      | _ => cases e
  | _ => exact e
theorem alongIn_up (S : Sub K1 K2) {x : Str} : ∀ {l : List Value} {r : Option Value}, alongIn K1 x l = some r → alongIn K2 x l = some r
  | [], _, e => e
  | c :: l, r, e => by
    unfold alongIn at e ⊢
    cases q : ownIn K1 x c with
    | none => rw [q] at e; cases e
    | some y =>
      rw [q] at e
      rw [ownIn_up S q]
      cases y with
      | none => exact alongIn_up S e
      | some v => exact e
theorem findIn_up (S : Sub K1 K2) {t : Value} {x : Str} {r : Option Value} (e : findIn K1 t x = some r) : findIn K2 t x = some r := by
  cases t with
  | ref a =>
    unfold findIn at e ⊢
    dsimp only at e ⊢
    cases q : K1.lookup a with
    | none => rw [q] at e; cases e
    | some o =>
      rw [q] at e
      rw [S _ _ q]
      obtain ⟨oc, od, dt, sl⟩ := o
      cases dt with
      | cls cd => exact alongIn_up S e
      | _ => cases e
  | _ => exact e
theorem clsIn_up (S : Sub K1 K2) {C : Addr} {cd : ClassData} (e : clsIn K1 C = some cd) : clsIn K2 C = some cd := by
  unfold clsIn at e ⊢
  cases q : K1.lookup C with
  | none => rw [q] at e; cases e
  | some o => rw [q] at e; rw [S _ _ q]; exact e
theorem typeIn_up (S : Sub K1 K2) {v t : Value} (e : typeIn K1 v = some t) : typeIn K2 v = some t := by
  cases v with
  | ref a =>
    have e1 : (K1.lookup a).map (·.cls) = some t := e
    obtain ⟨o, q, rfl⟩ := Option.map_eq_some_iff.mp e1
    show (K2.lookup a).map (·.cls) = some o.cls
    rw [S _ _ q] <;> rfl
  | _ => exact e
theorem specialIn_up (S : Sub K1 K2) {v : Value} {x : Str} {r : Option Value} (e : specialIn K1 v x = some r) : specialIn K2 v x = some r := by
  unfold specialIn at e ⊢
  obtain ⟨t, h1, h2⟩ := Option.bind_eq_some_iff.mp e
  exact Option.bind_eq_some_iff.mpr ⟨t, typeIn_up S h1, findIn_up S h2⟩
theorem takesIn_up (S : Sub K1 K2) {v : Value} {r : Bool} (e : takesIn K1 v = some r) : takesIn K2 v = some r := by
  unfold takesIn at e ⊢
  cases q : specialIn K1 v "__set__" with
  | none => rw [q] at e; cases e
  | some y =>
    rw [q] at e
    rw [specialIn_up S q]
    cases y with
    | some z => exact e
    | none =>
      obtain ⟨o, h1, rfl⟩ := Option.map_eq_some_iff.mp e
      exact Option.map_eq_some_iff.mpr ⟨o, specialIn_up S h1, rfl⟩
theorem mroIn_up (S : Sub K1 K2) {C : Addr} {b : Value} {r : Bool} (e : mroIn K1 C b = some r) : mroIn K2 C b = some r := by
  unfold mroIn at e ⊢
  obtain ⟨cd, h1, h2⟩ := Option.bind_eq_some_iff.mp e
  exact Option.bind_eq_some_iff.mpr ⟨cd, clsIn_up S h1, h2⟩
theorem subIn_up (S : Sub K1 K2) {t b : Value} {r : Bool} (e : subIn K1 t b = some r) : subIn K2 t b = some r := by
  cases t with
  | ref C => exact mroIn_up S e
  | _ => exact e
theorem hasDictIn_up (S : Sub K1 K2) {C : Addr} (e : hasDictIn K1 C = true) : hasDictIn K2 C = true := by
  unfold hasDictIn at e ⊢
  cases q : clsIn K1 C with
  | none => rw [q] at e; cases e
  | some cd => rw [q] at e; rw [clsIn_up S q]; exact e
theorem isCls_up (S : Sub K1 K2) {C : Addr} (e : (clsIn K1 C).isSome = true) : (clsIn K2 C).isSome = true := by
  cases q : clsIn K1 C with
  | none => rw [q] at e; cases e
  | some cd => rw [clsIn_up S q] <;> rfl
theorem keepIn_up (S : Sub K1 K2) {v : Value} (e : keepIn K1 v = true) : keepIn K2 v = true := by
  cases v with
  | ref a =>
    unfold keepIn at e ⊢
    dsimp only at e ⊢
    cases q : K1.lookup a with
    | none => rw [q] at e; cases e
    | some o =>
      rw [q] at e
      rw [S _ _ q]
      obtain ⟨oc, od, dt, sl⟩ := o
      cases dt with
      | func fd => rfl
      | cls cd => exact beq_iff_eq.mpr (specialIn_up S (beq_iff_eq.mp e))
      | _ => cases e
  | _ => cases e
theorem isFn_up (S : Sub K1 K2) {v : Value} (e : isFn K1 v = true) : isFn K2 v = true :=
  beq_iff_eq.mpr (typeIn_up S (beq_iff_eq.mp e))
theorem codeIn_up (S : Sub K1 K2) {c : Value} {q : Str} (e : codeIn K1 c q = true) : codeIn K2 c q = true := by
  cases c with
  | ref a =>
    unfold codeIn at e ⊢
    dsimp only at e ⊢
    cases z : K1.lookup a with
    | none => rw [z] at e; cases e
    | some o => rw [z] at e; rw [S _ _ z]; exact e
  | _ => cases e
theorem codeHdIn_up (S : Sub K1 K2) {c p : Addr} (e : codeHdIn K1 c p = true) : codeHdIn K2 c p = true := by
  unfold codeHdIn at e ⊢
  cases z : K1.lookup c with
  | none => rw [z] at e; cases e
  | some o => rw [z] at e; rw [S _ _ z]; exact e
theorem nsOkIn_up (S : Sub K1 K2) {N : Addr} (e : nsOkIn K1 N = true) : nsOkIn K2 N = true := by
  unfold nsOkIn at e ⊢
  cases z : K1.lookup N with
  | none => rw [z] at e; cases e
  | some o => rw [z] at e; rw [S _ _ z]; exact e
theorem tailIn_up (S : Sub K1 K2) {b : List Value} : ∀ {l : List Value}, tailIn K1 b l = true → tailIn K2 b l = true
  | [], e => e
  | v :: l, e => by
    unfold tailIn at e ⊢
    rcases Bool.or_eq_true_iff.mp e with h | h
    · rw [h] <;> rfl
    · refine Bool.or_eq_true_iff.mpr (.inr ?_)
      cases v with
      | ref A =>
        dsimp only at h ⊢
        cases z : K1.lookup A with
        | none => rw [z] at h; cases h
        | some o =>
          rw [z] at h
          rw [S _ _ z]
          obtain ⟨oc, od, dt, sl⟩ := o
          cases dt with
          | cls cd =>
            obtain ⟨h12, h3⟩ := Bool.and_eq_true_iff.mp h
            obtain ⟨h1, h2⟩ := Bool.and_eq_true_iff.mp h12
            exact Bool.and_eq_true_iff.mpr ⟨Bool.and_eq_true_iff.mpr ⟨nsOkIn_up S h1, beq_iff_eq.mpr (nsIn_up S (beq_iff_eq.mp h2))⟩, tailIn_up S h3⟩
          | _ => cases h
      | _ => cases h
theorem excIn_up (S : Sub K1 K2) {C : Addr} {b : List Value} {n : String} (e : excIn K1 C b n = true) : excIn K2 C b n = true := by
  unfold excIn at e
  split at e
  · rename_i dd cd sl ho
    unfold excIn
    rw [S _ _ ho]
    split at e
    · rename_i C' bm k0 k1 k2 k3 n' k5 hm hs
      obtain ⟨nm, bs, mro, ns, qn, hd, sn, sb, ab, col, del⟩ := cd
      obtain ⟨l⟩ := sl
      have hm2 : mro = .ref C' :: bm := hm
      have hs2 : l = [k0, k1, k2, k3, some (.builtin n'), k5] := hs
      subst hm2 hs2
      obtain ⟨e5, e6⟩ := Bool.and_eq_true_iff.mp e
      obtain ⟨e4, e7⟩ := Bool.and_eq_true_iff.mp e5
      obtain ⟨e3, e8⟩ := Bool.and_eq_true_iff.mp e4
      exact Bool.and_eq_true_iff.mpr ⟨Bool.and_eq_true_iff.mpr ⟨Bool.and_eq_true_iff.mpr ⟨e3, tailIn_up S e8⟩, nsOkIn_up S e7⟩, beq_iff_eq.mpr (nsIn_up S (beq_iff_eq.mp e6))⟩
    · cases e
  · cases e
theorem kitOne_up (S : Sub K1 K2) {t c : Value} {b : Bool} (e : kitOne K1 t c = some b) : kitOne K2 t c = some b := by
  unfold kitOne at e ⊢
  by_cases h : (t == c) = true
  · rw [if_pos h] at e ⊢
    exact e
  · rw [if_neg h] at e ⊢
    unfold kitCls at e ⊢
    cases c with
    | ref C =>
      dsimp only at e ⊢
      by_cases h2 : ((clsIn K1 C).isSome && typeIn K1 (.ref C) == some (.type "type")) = true
      · rw [if_pos h2] at e
        obtain ⟨h3, h4⟩ := Bool.and_eq_true_iff.mp h2
        rw [if_pos (Bool.and_eq_true_iff.mpr ⟨isCls_up S h3, beq_iff_eq.mpr (typeIn_up S (beq_iff_eq.mp h4))⟩)]
        exact subIn_up S e
      · rw [if_neg h2] at e
        cases e
    | type T =>
      dsimp only at e ⊢
      by_cases h2 : kitMeta T = true
      · rw [if_pos h2] at e ⊢
        exact subIn_up S e
      · rw [if_neg h2] at e
        cases e
    | _ => cases e
theorem funD_up (S : Sub K1 K2) {x q : Str} {ps : Arguments} {body : List Stmt} {sc : Scope} {f : Addr} {fd : FuncData} (F : FunD K1 x q ps body sc [] [] f fd) : FunD K2 x q ps body sc [] [] f fd := by
  obtain ⟨oc, od, dV, kV, doc, pm, an, cdv, ct, osl, e, lk, hc, hD, hK⟩ := F.ex
  refine ⟨⟨oc, od, dV, kV, doc, pm, an, cdv, ct, osl, e, S _ _ lk, codeIn_up S hc, ?_, .inl rfl⟩, keepIn_up S F.kp⟩
  rcases hD with h | ⟨h, _⟩
  · exact .inl h
  · exact absurd rfl h
end
/-! ### parts of one heap -/
section
variable {g : Addr → Option Obj}
theorem frG_in_as {a : Addr} {o : Obj} : ∀ {as : List Addr}, (a, o) ∈ He.frG g as → a ∈ as := fun {as} h => by
  unfold He.frG at h
  obtain ⟨b, hb, e⟩ := List.mem_filterMap.mp h
  cases q : g b with
  | none => rw [q] at e; cases e
  | some u =>
    rw [q] at e
    have e2 : (b, u) = (a, o) := Option.some.inj e
    injection e2 with e3 e4
    rw [← e3]
    exact hb
theorem look_first {a : Addr} {o : Obj} : ∀ {l : List (Addr × Obj)}, (∀ p ∈ l, p.1 = a → p.2 = o) → (∃ p ∈ l, p.1 = a) → l.lookup a = some o
  | [], _, h => by
    obtain ⟨p, hp, _⟩ := h
    cases hp
  | (b, u) :: l, h1, h2 => by
    show (match a == b with | true => some u | false => l.lookup a) = some o
    cases q : (a == b) with
    | true =>
      have e : b = a := (beq_iff_eq.mp q).symm
      exact congrArg some (h1 (b, u) List.mem_cons_self e)
    | false =>
      refine look_first (fun p hp => h1 p (List.mem_cons_of_mem _ hp)) ?_
      obtain ⟨p, hp, e⟩ := h2
      rcases List.mem_cons.mp hp with z | z
      · rw [z] at e
        have e1 : b = a := e
        rw [e1, beq_self_eq_true] at q
        cases q
      · exact ⟨p, z, e⟩
theorem frT_of {as : List Addr} {a : Addr} {o : Obj} (ha : a ∈ as) (hg : g a = some o) (hn : He.emptyTab o = false) : (He.frT g as).lookup a = some o := by
  refine look_first (fun p hp e => ?_) ⟨(a, o), ?_, rfl⟩
  · obtain ⟨b, u⟩ := p
    have e1 : b = a := e
    subst e1
    have q := He.frG_mem (List.mem_filter.mp hp).1
    rw [hg] at q
    exact (Option.some.inj q).symm
  · refine List.mem_filter.mpr ⟨?_, by rw [hn] <;> rfl⟩
    unfold He.frG
    exact List.mem_filterMap.mpr ⟨a, ha, by rw [hg] <;> rfl⟩
theorem frT_sub {as bs : List Addr} (h : ∀ a ∈ as, a ∈ bs) : Sub (He.frT g as) (He.frT g bs) := fun a o e => by
  obtain ⟨h1, h2⟩ := He.frT_mem e
  exact frT_of (h a (frG_in_as (List.mem_filter.mp (He.lookup_mem e)).1)) h1 h2
end
/-! ### the Hook -/
/-- a part: its addresses, what is asked of it, the defs that are told of it -/
structure Grp where
  as : (Addr → Option Obj) → List Addr
  chk : (Addr → Option Obj) → Frag → Bool
  defs : List He.DefD := []
/-- a def with a table of code objects: the part in which it is told -/
def tabOk (g : Addr → Option Obj) (K : Frag) (p : He.Defn) : Bool := codeHdIn K (He.cT K p).1 (He.cT K p).2 && (match g (He.cT K p).2 with
  | some o => He.emptyTab o
  | none => false)
abbrev AlG : Type := Bool × List (List He.FnW)
def obsG (gs : List Grp) (g : Addr → Option Obj) : AlG :=
  (gs.all fun G => G.chk g (He.frT g (G.as g)) && G.defs.all fun d => d.ok (He.frT g (G.as g)), gs.map fun G => G.defs.map fun d => He.fnW (He.frT g (G.as g)) d.at_)
def valG (gs : List Grp) : AlG := (true, gs.map fun G => G.defs.map He.DefD.val)
def SaysG (gs : List Grp) (h : Heap) : Prop := ∃ h0 : Heap, (∀ b o, h0.get? b = some o → h.get? b = some o) ∧ obsG gs h0.get? = valG gs
def hookG (gs : List Grp) : Hook where
  α := AlG
  obs := fun s => obsG gs s.heap.get?
  val := fun _ => valG gs
  says := fun _ h => SaysG gs h
  of := fun _ s e => ⟨s.heap, fun _ _ q => q, e⟩
  keeps := fun _ _ _ ⟨h0, k0, e⟩ k => ⟨h0, fun b o q => k b o (k0 b o q), e⟩
theorem obsG_eq {gs : List Grp} {g : Addr → Option Obj} {s : Shared} (h : ∀ a, g a = s.heap.get? a) : obsG gs g = (hookG gs).obs s := by
  have e : g = s.heap.get? := funext h
  rw [e] <;> rfl
/-- the whole part -/
def allG (gs : List Grp) (g : Addr → Option Obj) : Frag := He.frT g (gs.flatMap fun G => G.as g)
section
variable {gs : List Grp} {g : Addr → Option Obj}
theorem sub_all {G : Grp} (h : G ∈ gs) : Sub (He.frT g (G.as g)) (allG gs g) := frT_sub fun a ha => List.mem_flatMap.mpr ⟨G, h, ha⟩
theorem chk_of (e : obsG gs g = valG gs) {G : Grp} (h : G ∈ gs) : G.chk g (He.frT g (G.as g)) = true := by
  have e1 : (gs.all fun G => G.chk g (He.frT g (G.as g)) && G.defs.all fun d => d.ok (He.frT g (G.as g))) = true := congrArg (fun z : AlG => z.1) e
  exact (Bool.and_eq_true_iff.mp (List.all_eq_true.mp e1 G h)).1
theorem map_at {α β : Type} {f1 f2 : α → β} : ∀ {l : List α}, l.map f1 = l.map f2 → ∀ x ∈ l, f1 x = f2 x
  | [], _, _, h => nomatch h
  | y :: l, e, x, h => by
    injection e with e1 e2
    rcases List.mem_cons.mp h with z | z
    · rw [z]
      exact e1
    · exact map_at e2 x z
theorem def_of (e : obsG gs g = valG gs) {G : Grp} (h : G ∈ gs) {d : He.DefD} (hd : d ∈ G.defs) :
    ∃ fd, FunD (He.frT g (G.as g)) d.name d.qual d.params d.body d.scope (d.dvs (He.frT g (G.as g))) (d.kws (He.frT g (G.as g))) (He.fAd (He.frT g (G.as g)) d.at_) fd := by
  have e1 : (gs.all fun G => G.chk g (He.frT g (G.as g)) && G.defs.all fun d => d.ok (He.frT g (G.as g))) = true := congrArg (fun z : AlG => z.1) e
  have e2 : (gs.map fun G => G.defs.map fun d => He.fnW (He.frT g (G.as g)) d.at_) = gs.map fun G => G.defs.map He.DefD.val := congrArg (fun z : AlG => z.2) e
  have ok := List.all_eq_true.mp (Bool.and_eq_true_iff.mp (List.all_eq_true.mp e1 G h)).2 d hd
  exact He.DefD.funD (map_at (map_at e2 G h) d hd) ok
end
end FM
end T_FragM
section T_K0Base
set_option Elab.async false
set_option linter.all false
set_option maxRecDepth 100000
set_option maxHeartbeats 0
namespace K0
open PySem PySem.Spec PyProof.Rows L2
def top (i : Nat) : Stmt := PySem.Challenge.pw_lastfaces_k00_errors_made.main.body.getD i (.Pass ⟨0, 0, 0, 0⟩)
/-! ### the classes, in their order: the place in the text, the name, the names of what each keeps -/
structure Row where
  i : Nat
  x : Str
  fs : List Str
def rows0 : List Row := [⟨2, "BadAnswer", ["thing"]⟩, ⟨3, "BadAround", ["thing"]⟩, ⟨4, "BadAsker", ["thing"]⟩, ⟨5, "BadChutes", ["index"]⟩, ⟨6, "BadClaim", ["thing"]⟩, ⟨7, "BadClaims", ["index"]⟩]
def rows1 : List Row := [⟨8, "BadDeed", ["thing"]⟩, ⟨9, "BadDoors", ["index"]⟩, ⟨10, "BadDues", ["thing"]⟩, ⟨11, "BadFloors", ["index"]⟩, ⟨12, "BadGates", ["index"]⟩, ⟨13, "BadGiven", ["thing"]⟩]
def rows2 : List Row := [⟨14, "BadGuesses", ["thing"]⟩, ⟨15, "BadInn", ["thing"]⟩, ⟨16, "BadKeeper", ["thing"]⟩, ⟨17, "BadKept", ["thing"]⟩, ⟨18, "BadLandings", ["index"]⟩, ⟨19, "BadLists", ["thing"]⟩]
def rows3 : List Row := [⟨20, "BadLooker", ["thing"]⟩, ⟨21, "BadMany", ["many"]⟩, ⟨22, "BadMap", ["thing"]⟩, ⟨23, "BadName", ["thing"]⟩, ⟨24, "BadNames", ["thing"]⟩, ⟨25, "BadNumber", ["thing"]⟩]
def rows4 : List Row := [⟨26, "BadOrder", ["index"]⟩, ⟨27, "BadPeople", ["index"]⟩, ⟨28, "BadPerson", ["thing"]⟩, ⟨29, "BadPiece", ["thing"]⟩, ⟨30, "BadPlacing", ["thing"]⟩, ⟨31, "BadQuestion", ["thing"]⟩]
def rows5 : List Row := [⟨32, "BadRooms", ["index"]⟩, ⟨33, "BadRow", ["index"]⟩, ⟨34, "BadRows", ["thing"]⟩, ⟨35, "BadSeen", ["thing"]⟩, ⟨36, "BadShy", ["thing"]⟩, ⟨37, "BadSome", ["index"]⟩]
def rows6 : List Row := [⟨38, "BadStart", ["thing"]⟩, ⟨39, "BadSteps", ["index"]⟩, ⟨40, "BadText", ["line"]⟩, ⟨41, "BadTurns", ["index"]⟩, ⟨42, "BadWishes", ["index"]⟩, ⟨43, "CanBeTold", []⟩]
def rows7 : List Row := [⟨44, "CommonPerson", ["name"]⟩, ⟨45, "CommonRoom", ["name"]⟩, ⟨46, "Crowded", ["room"]⟩, ⟨47, "HasRing", []⟩, ⟨48, "InUse", ["question"]⟩, ⟨49, "IsDoor", ["one", "other"]⟩]
def rows8 : List Row := [⟨50, "IsEnough", []⟩, ⟨51, "IsShown", ["room"]⟩, ⟨52, "IsWatched", ["question"]⟩, ⟨53, "LastRoom", []⟩, ⟨54, "NoCount", ["thing"]⟩, ⟨55, "NoDoor", ["one", "other"]⟩]
def rows9 : List Row := [⟨56, "NoPerson", ["thing"]⟩, ⟨57, "NoRoom", ["thing"]⟩, ⟨58, "NoSteps", []⟩, ⟨59, "NoTree", []⟩, ⟨60, "NoTruth", ["thing"]⟩, ⟨61, "NoWalks", ["why"]⟩]
def rows10 : List Row := [⟨62, "NoneGoes", ["people"]⟩, ⟨63, "NoneLeft", []⟩, ⟨64, "NotBeside", ["room"]⟩, ⟨65, "NotFull", ["room"]⟩, ⟨66, "NotGoing", ["thing"]⟩, ⟨67, "NotLeaf", ["name"]⟩]
def rows11 : List Row := [⟨68, "NotLeft", ["thing"]⟩, ⟨69, "NotOneGate", []⟩, ⟨70, "NotPlaced", ["thing"]⟩, ⟨71, "NotSeen", ["room"]⟩, ⟨72, "NotShown", ["person"]⟩, ⟨73, "NotWatched", ["question"]⟩]
def rows12 : List Row := [⟨74, "Occupied", ["room"]⟩, ⟨75, "OtherPeople", ["person"]⟩, ⟨76, "RoomTaken", ["name"]⟩, ⟨77, "SameRoom", ["room"]⟩, ⟨78, "ShowsNobody", ["room"]⟩, ⟨79, "TakenPerson", ["person"]⟩]
def rows13 : List Row := [⟨80, "TakenRoom", ["room"]⟩, ⟨81, "UnlikeGates", []⟩, ⟨82, "UnlikePeople", []⟩, ⟨83, "UnlikeRooms", ["room"]⟩, ⟨84, "WouldChange", ["question"]⟩]
def rows : List Row := rows0 ++ (rows1 ++ (rows2 ++ (rows3 ++ (rows4 ++ (rows5 ++ (rows6 ++ (rows7 ++ (rows8 ++ (rows9 ++ (rows10 ++ (rows11 ++ (rows12 ++ (rows13)))))))))))))
/-! ### addresses -/
def gA (g : Addr → Option Obj) (x : Str) : Addr := He.ga (He.frT g [mainGlobals]) x
def nsOf (g : Addr → Option Obj) (C : Addr) : Addr := match g C with
  | some ⟨_, _, .cls cd, _⟩ => cd.ns
  | _ => 0
def inNs (g : Addr → Option Obj) (N : Addr) (x : Str) : Addr := match PySem.W.nsIn (He.frT g [N]) N x with
  | some (some (.ref a)) => a
  | _ => 0
def cdOf (g : Addr → Option Obj) (f : Addr) : Addr := match g f with
  | some ⟨_, _, .func fd, _⟩ => (match fd.code with
    | .ref c => c
    | _ => 0)
  | _ => 0
def initA (g : Addr → Option Obj) (x : Str) : Addr := inNs g (nsOf g (gA g x)) "__init__"
/-! ### what is asked of a class -/
def clsB (g : Addr → Option Obj) (r : Row) (K : PySem.W.Frag) : Bool :=
  match K.lookup (gA g r.x) with
  | some ⟨.type ty, _, .cls cd, sl⟩ => decide (ty = "type") && (match cd.mro, sl.toList with
    | .ref C :: bm, [_, _, _, _, some (.builtin n), _] => decide (C = gA g r.x) && (decide (n = "ValueError.__new__") && (!cd.hasDel && (cd.hasDict && decide (bm = .ref (gA g "FaceError") :: PySem.HandSPX.veTail))))
    | _, _ => false)
  | _ => false
def errB (r : Row) (g : Addr → Option Obj) (K : PySem.W.Frag) : Bool :=
  clsB g r K
  && (He.eqO (PySem.W.nsIn K mainGlobals r.x) (some (some (.ref (gA g r.x))))
  && (PySem.W.keepIn K (.ref (gA g r.x))
  && (He.eqO (PySem.W.findIn K (.ref (gA g r.x)) "__setattr__") (some (some (.builtin "object.__setattr__")))
  && (He.eqO (PySem.W.findIn K (.ref (gA g r.x)) "__getattribute__") (some (some (.builtin "BaseException.__getattribute__")))
  && (He.eqO (PySem.W.findIn K (.ref (gA g r.x)) "__getattr__") (some none)
  && (He.eqO (PySem.W.findIn K (.ref (gA g r.x)) "__class__") (some (some (.builtin "object.__class__")))
  && (r.fs.all (fun f => He.eqO (PySem.W.findIn K (.ref (gA g r.x)) f) (some none))
  && (match r.fs with
    | [] => PySem.W.excIn K (gA g r.x) He.veBase "ValueError.__new__"
    | _ => He.eqO (PySem.W.findIn K (.ref (gA g r.x)) "__init__") (some (some (.ref (initA g r.x)))) && (PySem.W.isFn K (.ref (initA g r.x)) && decide (He.fAd K (r.x, some "__init__") = initA g r.x))))))))))
def initS (i : Nat) : Stmt := inClass (top i) 0
def dInit (i : Nat) (x : Str) : He.DefD := ⟨(x, some "__init__"), "__init__", x ++ ".__init__", defArgs (initS i), defBody (initS i), defScope (initS i), [], []⟩
def dDef (i : Nat) (x : Str) : He.DefD := ⟨(x, none), x, x, defArgs (top i), defBody (top i), defScope (top i), [], []⟩
def asC (x : Str) (g : Addr → Option Obj) : List Addr := [mainGlobals, gA g x, nsOf g (gA g x), gA g "FaceError", nsOf g (gA g "FaceError"), initA g x, cdOf g (initA g x)]
def grpC (r : Row) : FM.Grp := ⟨asC r.x, errB r, match r.fs with
  | [] => []
  | _ => [dInit r.i r.x]⟩
/-! ### what is asked of the law's defs -/
def asD (x : Str) (g : Addr → Option Obj) : List Addr := [mainGlobals, gA g x, cdOf g (gA g x)]
def gloB (g : Addr → Option Obj) (K : PySem.W.Frag) (x : Str) : Bool := He.eqO (PySem.W.nsIn K mainGlobals x) (some (some (.ref (gA g x))))
def grpD (i : Nat) (x : Str) : FM.Grp := ⟨asD x, fun g K => gloB g K x, [dDef i x]⟩
def grpT (i : Nat) (x : Str) : FM.Grp := ⟨asD x, fun g K => gloB g K x && FM.tabOk g K (x, none), [dDef i x]⟩
def frees : List Str := ["list", "len", "int", "range", "isinstance", "repr", "enumerate", "ValueError", "LookupError"]
def tabNames : List Str := ["_law_made_a", "_law_made_b", "_law_made_c", "_law_made_d", "_law_made_e"]
def tabA (g : Addr → Option Obj) (x : Str) : Addr := (He.cT (He.frT g (asD x g)) (x, none)).2
def grp0 : FM.Grp := ⟨fun _ => [mainGlobals, PySem.sysModules], fun g K => decide ((rows.map fun r => gA g r.x).Nodup) && (frees.all (fun x => He.eqO (PySem.W.nsIn K mainGlobals x) (some none)) && (gloB g K "FaceError"
  && (He.eqO (PySem.W.specialIn K (.builtin "object.__class__") "__get__") (some (some (.builtin "getset_descriptor.__get__"))) && (decide (PySem.W.takesIn K (.builtin "object.__class__") = some true)
  && ((K.lookup PySem.sysModules).isSome && decide ((tabNames.map (tabA g)).Nodup)))))), []⟩
def rowF : Row := ⟨1, "FaceError", []⟩
def grpF : FM.Grp := ⟨asC "FaceError", fun g K => (match K.lookup (gA g "FaceError") with
  | some ⟨.type ty, _, .cls cd, sl⟩ => decide (ty = "type") && (match cd.mro, sl.toList with
    | .ref C :: bm, [_, _, _, _, some (.builtin n), _] => decide (C = gA g "FaceError") && (decide (n = "ValueError.__new__") && (!cd.hasDel && (cd.hasDict && decide (bm = PySem.HandSPX.veTail))))
    | _, _ => false)
  | _ => false)
  && (PySem.W.keepIn K (.ref (gA g "FaceError"))
  && (He.eqO (PySem.W.findIn K (.ref (gA g "FaceError")) "__getattribute__") (some (some (.builtin "BaseException.__getattribute__")))
  && (He.eqO (PySem.W.findIn K (.ref (gA g "FaceError")) "__getattr__") (some none)
  && (He.eqO (PySem.W.findIn K (.ref (gA g "FaceError")) "__class__") (some (some (.builtin "object.__class__")))
  && (decide (gA g "FaceError" ∉ rows.map fun r => gA g r.x) && PySem.W.excIn K (gA g "FaceError") He.veBase "ValueError.__new__"))))), []⟩
def gsD : List FM.Grp := [grpD 86 "_law_start", grpD 87 "_law_draw", grpD 88 "_law_mixed", grpT 89 "_law_made_a", grpT 90 "_law_made_b", grpT 91 "_law_made_c", grpT 92 "_law_made_d", grpT 93 "_law_made_e", grpD 94 "_law_kinds_a", grpD 95 "_law_kinds_b", grpD 96 "_law_kinds_c", grpD 97 "_law_kinds_d", grpD 98 "_law_kinds_e", grpD 99 "_law_kinds", grpD 100 "_law_is_own", grpD 101 "_law_are_these", grpD 102 "law"]
def gs : List FM.Grp := grp0 :: grpF :: (gsD ++ rows.map grpC)
def nm0 : List PySem.Str := ["FaceError", "BadAnswer", "BadAround", "BadAsker", "BadChutes", "BadClaim", "BadClaims", "BadDeed", "BadDoors", "BadDues", "BadFloors", "BadGates", "BadGiven", "BadGuesses"]
def nm1 : List PySem.Str := ["BadInn", "BadKeeper", "BadKept", "BadLandings", "BadLists", "BadLooker", "BadMany", "BadMap", "BadName", "BadNames", "BadNumber", "BadOrder", "BadPeople", "BadPerson"]
def nm2 : List PySem.Str := ["BadPiece", "BadPlacing", "BadQuestion", "BadRooms", "BadRow", "BadRows", "BadSeen", "BadShy", "BadSome", "BadStart", "BadSteps", "BadText", "BadTurns", "BadWishes"]
def nm3 : List PySem.Str := ["CanBeTold", "CommonPerson", "CommonRoom", "Crowded", "HasRing", "InUse", "IsDoor", "IsEnough", "IsShown", "IsWatched", "LastRoom", "NoCount", "NoDoor", "NoPerson"]
def nm4 : List PySem.Str := ["NoRoom", "NoSteps", "NoTree", "NoTruth", "NoWalks", "NoneGoes", "NoneLeft", "NotBeside", "NotFull", "NotGoing", "NotLeaf", "NotLeft", "NotOneGate", "NotPlaced"]
def nm5 : List PySem.Str := ["NotSeen", "NotShown", "NotWatched", "Occupied", "OtherPeople", "RoomTaken", "SameRoom", "ShowsNobody", "TakenPerson", "TakenRoom", "UnlikeGates", "UnlikePeople", "UnlikeRooms", "WouldChange"]
def nm6 : List PySem.Str := ["_law_start", "_law_draw", "_law_mixed", "_law_made_a", "_law_made_b", "_law_made_c", "_law_made_d", "_law_made_e", "_law_kinds_a", "_law_kinds_b", "_law_kinds_c", "_law_kinds_d", "_law_kinds_e", "_law_kinds"]
def nm7 : List PySem.Str := ["_law_is_own", "_law_are_these"]
def names : List PySem.Str := nm0 ++ nm1 ++ nm2 ++ nm3 ++ nm4 ++ nm5 ++ nm6 ++ nm7
abbrev R : PySem.W.OpenRow := PySem.W.OpenLaw.row PySem.Challenge.rw_lastfaces_k00_errors_made
abbrev hk : PySem.W.Hook := FM.hookG gs
def ob (s : PySem.W.SharedT) : FM.AlG := FM.obsG gs (HandSHeadRun.getT s)
theorem ob_eq (s : PySem.W.SharedT) : ob s = hk.obs s.abs := FM.obsG_eq (HandSHeadRun.getT_eq s)

end K0
end T_K0Base
section T_K0HalfB
set_option Elab.async false
set_option linter.all false
set_option maxRecDepth 100000
set_option maxHeartbeats 0
noncomputable section
namespace K0
namespace Mid
open PySem PySem.W PySem.Calls PyProof.Rows HandSHeadRun
abbrev qV : Program := PySem.W.view R.prog [102]
abbrev TB (w : World) : Thread := ⟨(exQ (B.drop 44) ev).wrap doneF (leaveH ev) id id, .body B ev, zc, [topFrame z0]⟩
theorem halfB (w : World) (os : OsState) : (goF (stQ w) 11 (bootAnn w) 10400 (S w os) (TB w)).map (fun s => (looksF R.prog (boot_heap w.params) s.abs, seenQ qV names (importedModules R.prog.main.body) (fun s => xlAt qV [] s && recOk R.toRowW.records s) s.abs)) = some (true, openGood qV names) := by kernel_rfl
end Mid
end K0
end
end T_K0HalfB
section T_K0HalfC
set_option Elab.async false
set_option linter.all false
set_option maxRecDepth 100000
set_option maxHeartbeats 0
noncomputable section
namespace K0
namespace Mid
open PySem PySem.W PySem.Calls PyProof.Rows HandSHeadRun
theorem halfC (w : World) (os : OsState) : (goF (stQ w) 11 (bootAnn w) 10400 (S w os) (TB w)).map ob = some (FM.valG gs) := by kernel_rfl
end Mid
end K0
end
end T_K0HalfC
section T_KL1
set_option Elab.async false
set_option linter.all false
set_option maxRecDepth 100000
set_option maxHeartbeats 0
noncomputable section
namespace K0
namespace Mid
open PySem PySem.W PySem.Calls PyProof.Rows HandSHeadRun
theorem boot_put (w : World) (os : OsState) : putAll (boot_heap w.params).objs.toList .nil 0 = some ((S0 w os).tree, 11) := by kernel_rfl
theorem boot_size (w : World) : (boot_heap w.params).objs.size = 11 := by kernel_rfl
theorem S0_abs (w : World) (os : OsState) : (S0 w os).abs = ⟨boot_heap w.params, #[], boot_drawn, boot_toks, os⟩ := by
  show (⟨absHeap (S0 w os).tree 11 (boot_heap w.params).life, #[], boot_drawn, boot_toks, os⟩ : Shared) = _
  rw [putAll_heap (boot_put w os)]
theorem st_eq (w : World) : stQ w = stepT (denote treeTable) Pr w := by
  unfold stQ
  rw [← stepQ_eq, ← denQ_eq, ← tabQ_eq]
end Mid
end K0
end
end T_KL1
section T_KL2
set_option Elab.async false
set_option linter.all false
set_option maxRecDepth 100000
set_option maxHeartbeats 400000
noncomputable section
namespace K0
namespace Mid
open PySem PySem.W PySem.Calls PyProof.Rows HandSHeadRun
theorem pre2 (w : World) (os : OsState) : goK (stepT (denote treeTable) Pr w) 11 (bootAnn w) 12 (S0 w os) (topStub Pr) = some (SA w os, ⟨denote treeTable (.body B ev), .body B ev, z0, [topFrame z0]⟩) := by
  have h := pre w os
  rw [st_eq, ← denQ_eq, ← tabQ_eq] at h
  exact h
theorem block2 (w : World) (os : OsState) : segR (stepT (denote treeTable) Pr w) 11 (bootAnn w) 1 (SA w os) (blockOf B ev (.body B ev) z0 [topFrame z0]) = some (SA w os, .body B ev, z0) := by
  have h := block w os
  rw [st_eq] at h
  exact h
theorem half2 (w : World) (os : OsState) : segR (stepT (denote treeTable) Pr w) 11 (bootAnn w) 10460 (SA w os) (piecesOf (B.take 44) ev (.body B ev) z0 [topFrame z0]) = some (S w os, .body B ev, zc) := by
  have h := half w os
  rw [st_eq, ← exQ_eq] at h
  exact h
end Mid
end K0
end
end T_KL2
section T_KL3
set_option Elab.async false
set_option linter.all false
set_option maxRecDepth 100000
set_option maxHeartbeats 400000
noncomputable section
namespace K0
namespace Mid
open PySem PySem.W PySem.Calls PyProof.Rows HandSHeadRun
/-- what is looked at behind the top -/
def lookE (w : World) (z : SharedT) : Prop := (looksF R.prog (boot_heap w.params) z.abs, seenQ qV names (importedModules R.prog.main.body) (fun s => xlAt qV [] s && recOk R.toRowW.records s) z.abs) = (true, openGood qV names) ∧ ob z = FM.valG gs
theorem rest2 (w : World) (os : OsState) : ∃ z, goF (stepT (denote treeTable) Pr w) 11 (bootAnn w) 10400 (S w os) (restOf (B.drop 44) ev (.body B ev) zc [topFrame z0]) = some z ∧ lookE w z := by
  obtain ⟨z, hz, hv⟩ := Option.map_eq_some_iff.mp (halfB w os)
  obtain ⟨z', hz', hc⟩ := Option.map_eq_some_iff.mp (halfC w os)
  have e : z = z' := Option.some.inj (hz.symm.trans hz')
  subst e
  refine ⟨z, ?_, hv, hc⟩
  have h : goF (stQ w) 11 (bootAnn w) 10400 (S w os) ⟨(exQ (B.drop 44) ev).wrap doneF (leaveH ev) id id, .body B ev, zc, [topFrame z0]⟩ = some z := hz
  rw [st_eq, ← exQ_eq] at h
  exact h
end Mid
end K0
end
end T_KL3
section T_KL4
set_option Elab.async false
set_option linter.all false
set_option maxRecDepth 100000
set_option maxHeartbeats 400000
noncomputable section
namespace K0
namespace Mid
open PySem PySem.W PySem.Calls PyProof.Rows HandSHeadRun
theorem top_all (w : World) (os : OsState) : ∃ z : SharedT, topRun treeTable Pr w 11 (bootAnn w) (12 + (1 + (10460 + 10400))) (S0 w os).abs (topStub Pr) = some z.abs ∧ lookE w z := by
  obtain ⟨z, hz, hl⟩ := rest2 w os
  refine ⟨z, ?_, hl⟩
  have q := piece_app (q := z0) (rest := B.drop 44) (segR_ok (half2 w os)) (goF_ok hz)
  rw [List.take_append_drop] at q
  exact go_top (goK_ok (pre2 w os)) (piece_block (segR_ok (block2 w os)) q)
end Mid
end K0
end
end T_KL4
section T_KL5
set_option Elab.async false
set_option linter.all false
set_option maxRecDepth 100000
set_option maxHeartbeats 400000
noncomputable section
namespace K0
namespace Mid
open PySem PySem.W PySem.Calls PyProof.Rows HandSHeadRun
theorem opens : opening R.prog = plainProg R.prog.main.scope.names := by kernel_rfl
theorem fences (s : Shared) : fenceModules? R.prog s = some s := by kernel_rfl
theorem top_mono (w : World) (os : OsState) : ∃ z : SharedT, topRun treeTable R.prog w (boot_heap w.params).objs.size (bootAnn w) 30000 ⟨boot_heap w.params, #[], boot_drawn, boot_toks, os⟩ (topStub R.prog) = some z.abs ∧ lookE w z := by
  obtain ⟨z, h, l⟩ := top_all w os
  have r := topRun_mono (30000 - (12 + (1 + (10460 + 10400)))) _ _ _ _ h
  rw [S0_abs, ← boot_size w] at r
  exact ⟨z, r, l⟩
end Mid
end K0
end
end T_KL5
section T_KL6
set_option Elab.async false
set_option linter.all false
set_option maxRecDepth 100000
set_option maxHeartbeats 400000
noncomputable section
namespace K0
namespace Mid
open PySem PySem.W PySem.Calls PyProof.Rows HandSHeadRun
/-- the head from a run that is known state by state -/
theorem left_of {p q : Program} {loose : List PySem.Str} {Xt : Shared → Bool} {α : Type} {Yf : Shared → α} {Ya : World → α} {N : Nat} (o : opening p = plainProg p.main.scope.names) (le : Nat.ble 600 N = true) (fe : ∀ s, fenceModules? p s = some s)
    (go : ∀ (w : World) (os : OsState), ∃ z : Shared, topRun treeTable p w (boot_heap w.params).objs.size (bootAnn w) N ⟨boot_heap w.params, #[], boot_drawn, boot_toks, os⟩ (topStub p) = some z ∧
      looksF p (boot_heap w.params) z = true ∧ openSeen q loose (importedModules p.main.body) Xt true z = openGood q loose ∧ Yf z = Ya w) : LeftO p q loose Xt Yf Ya N true := by
  intro w
  obtain ⟨⟨hp, ge, dr, tk, os⟩, b1, b2⟩ := Option.map_eq_some_iff.mp (boot_open o le fe w)
  simp only [Prod.mk.injEq] at b2
  obtain ⟨rfl, rfl, rfl, rfl⟩ := b2
  obtain ⟨z, run, look, seen, says⟩ := go w os
  have ends : topFrom treeTable p w N ⟨boot_heap w.params, #[], boot_drawn, boot_toks, os⟩ = some z := by
    unfold topFrom
    dsimp only
    rw [boot_ns]
    change (topRun treeTable p w (boot_heap w.params).objs.size (bootAnn w) N _ (topStub p)).bind _ = _
    rw [run]
    change (match looksF p (boot_heap w.params) z with
      | true => some z
      | false => none) = some z
    rw [look]
  unfold openEnds
  rw [b1]
  change (topFrom treeTable p w N _).map _ = _
  rw [ends]
  exact congrArg some (Prod.ext seen says)
end Mid
end K0
end
end T_KL6
section T_KL7
set_option Elab.async false
set_option linter.all false
set_option maxRecDepth 100000
set_option maxHeartbeats 400000
noncomputable section
namespace K0
namespace Mid
open PySem PySem.W PySem.Calls PyProof.Rows HandSHeadRun
theorem left : LeftO R.prog qV names (fun s => xlAt qV [] s && recOk R.toRowW.records s) hk.obs hk.val 30000 true :=
  left_of opens (by decide) fences fun w os => by
    obtain ⟨z, run, look, says⟩ := top_mono w os
    refine ⟨z.abs, run, congrArg Prod.fst look, ?_, ?_⟩
    · exact (seenQ_eq qV names _ _ z.abs).trans (congrArg Prod.snd look)
    · exact (ob_eq z).symm.trans says
end Mid
end K0
end
end T_KL7
section T_KwExc
set_option Elab.async false
set_option linter.all false
set_option maxRecDepth 100000
set_option maxHeartbeats 4000000
/-! An own exception class over ValueError, called with keywords. -/
namespace PySem
namespace KwX
open Builtin Builtin.ObjectAttr PySem.HandSPX
section
variable {prog : Program} {w : World} {A : Around} {E : Value → Shared → Prop} {R : Result → Shared → Prop}
variable {hh : Heap} {gg : Array GenState} {dw : Drawn} {tk : Nat} {os : OsState}
variable {nm q : Str} {C N : Addr} {bs bm bmB : List Value} {hdct : Bool} {sn : List Str} {sub : List Value} {ab : Bool}
variable {col : Option Bool} {dd : Option Addr} {k0 k1 k2 k3 k5 : Option Value} {B newId initId : String}

theorem kw_check {M : Model} (F : ExcBaseFacts B newId initId bmB)
    (hT : ∀ X : String, bm.contains (.type X) = bmB.contains (.type X)) {kw : List (Str × Value)} {Q : Unit → Shared → Prop}
    (hC : hh.get? C = some (excClassObj nm q C N bs bm hdct sn sub ab col dd k0 k1 k2 k3 k5 newId))
    (hq : Q () ⟨hh, gg, dw, tk, os⟩) :
    wpAny M A (checkBuiltinCall newId ⟨[.ref C], kw⟩) Q E ⟨hh, gg, dw, tk, os⟩ := by
  have isB : (Value.ref C :: bm).contains (.type B) = true := by
    rw [List.contains_cons, hT, F.hasB, Bool.or_true]
  have star := F.noStar
  simp only [checkBuiltinCall, F.newKind, F.newSplit, F.newRow]
  repeat (first
    | refine wpAny_loadPart_at hC ?_
    | (refine wpAny_isSubtype_exc hC ?_; rw [isB])
    | refine wpAny_staticBase_exc hC ?_
    | refine wpAny_madeBy_exc hC ?_
    | simp only [bne_self_eq_false, Bool.false_eq_true, if_false]
    | wp_step)
  exact hq

/-- BaseException.__new__ lets keywords be -/
theorem kw_new (F : ExcBaseFacts B newId initId bmB)
    (hT : ∀ X : String, bm.contains (.type X) = bmB.contains (.type X)) {kw : List (Str × Value)}
    (hC : hh.get? C = some (excClassObj nm q C N bs bm hdct sn sub ab col dd k0 k1 k2 k3 k5 newId))
    (hq : R (.ok (.ret (.ref (hh.objs.size + 1)))) ⟨(hh.push (W.kdv_tup [])).push (excO C hh.objs.size), gg, dw, tk, os⟩) :
    codeAny (model prog w) A (.builtin newId ⟨[.ref C], kw⟩) R ⟨hh, gg, dw, tk, os⟩ := by
  have ends := F.ends
  have isB : (Value.ref C :: bm).contains (.type B) = true := by
    rw [List.contains_cons, hT, F.hasB, Bool.or_true]
  have notA : (Value.ref C :: bm).contains (.type "AttributeError") = false := by
    rw [List.contains_cons, hT, F.noAttr]; rfl
  have notN : (Value.ref C :: bm).contains (.type "NameError") = false := by
    rw [List.contains_cons, hT, F.noName]; rfl
  have small : ([] : List Value).length ≤ sizeLine := Nat.zero_le _
  refine codeAny_builtinAt F.entry ?_
  unfold Builtin.«BaseException.__new__»
  refine wpAt_bind ?_
  show wpAt _ _ _ (stack >>= _) _ _ _
  refine wpAt_bind (wpAt_stack fun p below => wpAt_of_wpAny ?_)
  wp_walk
  refine wpAt_of_wpAny ?_
  rw [F.owner]
  repeat (first
    | with_reducible refine wpAny_madeHere_exc F.canon hC ?_
    | with_reducible refine wpAny_loadPart_at hC ?_
    | (with_reducible refine wpAny_isSubtype_exc hC ?_; first | rw [isB] | rw [notA] | rw [notN])
    | wp_step)
  show R _ _
  rw [Heap.size_push]
  exact hq

theorem kw_type (F : ExcBaseFacts B newId initId bmB)
    (hT : ∀ X : String, bm.contains (.type X) = bmB.contains (.type X)) {kw : List (Str × Value)} {fI : Addr} {Q : Fin → Shared → Prop}
    (hC : hh.get? C = some (excClassObj nm q C N bs bm hdct sn sub ab col dd k0 k1 k2 k3 k5 newId))
    (hi : W.Looks (model prog w) hh (typeLookup (.ref C) "__init__") (some (.ref fI)))
    (hb : ∀ self, W.Looks (model prog w) hh (bindSpecial (.ref fI) self) (.ref fI, [self]))
    (hq : codeAny (model prog w) A (.call (.ref fI) ⟨[.ref (hh.objs.size + 1)], kw⟩)
      (fun r s' => match r with
        | .ok (.ret v) => v = .none ∧ Q (.done (.ret (.ref (hh.objs.size + 1)))) s'
        | .ok _ => False
        | .error e => E e s')
      ⟨(hh.push (W.kdv_tup [])).push (excO C hh.objs.size), gg, dw, tk, os⟩) :
    wpAny (model prog w) A (Builtin.«type.__call__» ⟨[.ref C], kw⟩) Q E ⟨hh, gg, dw, tk, os⟩ := by
  repeat (first
    | with_reducible refine wpAny_loadPart_at hC ?_
    | with_reducible refine wpAny_madeBy_exc hC ?_
    | wp_step)
  refine codeAny_call_builtin_code (Code.quiet_builtin _ F.quiet) (kw_check F hT hC ?_)
  refine kw_new F hT hC ?_
  show wpAny _ _ _ _ _ _
  have kept : ∀ b o, hh.get? b = some o → ((hh.push (W.kdv_tup [])).push (excO C hh.objs.size)).get? b = some o :=
    fun b o e => Heap.get?_push_of_some _ (Heap.get?_push_of_some _ e)
  have cls1 := kept _ _ hC
  have exc1 : ((hh.push (W.kdv_tup [])).push (excO C hh.objs.size)).get? (hh.objs.size + 1) = some (excO C hh.objs.size) := by heap_get
  have isC : (Value.ref C :: bm).contains (.ref C) = true := by simp
  have look1 := hi.keeps kept
  have bind1 := (hb (.ref (hh.objs.size + 1))).keeps kept
  unfold isInstance
  repeat (first
    | with_reducible refine wpAny_loadPart_at exc1 ?_
    | (with_reducible refine wpAny_isSubtype_exc cls1 ?_; rw [isC])
    | wp_step)
  show wpAny _ _ (typeLookup (.ref C) _) _ _ _
  refine look1.at ?_
  refine wpAny_holding (wpAny_bind (bind1.at ?_))
  refine wpAny_bind (wpAny_call (codeAny_mono hq fun r s' z => ?_))
  rcases r with e | (v | _ | _ | _)
  · exact z
  · exact z.elim
  · exact z.elim
  · exact z.elim
  · obtain ⟨rfl, z⟩ := z
    first
      | exact wpAny_pure (wpAny_pure z)
      | (wp_walk; exact z)

theorem kw_call (F : ExcBaseFacts B newId initId bmB)
    (hT : ∀ X : String, bm.contains (.type X) = bmB.contains (.type X)) {kw : List (Str × Value)} {fI : Addr}
    (hC : hh.get? C = some (excClassObj nm q C N bs bm hdct sn sub ab col dd k0 k1 k2 k3 k5 newId))
    (hi : W.Looks (model prog w) hh (typeLookup (.ref C) "__init__") (some (.ref fI)))
    (hb : ∀ self, W.Looks (model prog w) hh (bindSpecial (.ref fI) self) (.ref fI, [self]))
    (hq : codeAny (model prog w) (A.under (.builtin "type.__call__" ⟨[.ref C], kw⟩)) (.call (.ref fI) ⟨[.ref (hh.objs.size + 1)], kw⟩)
      (W.InitBack (hh.objs.size + 1) R) ⟨(hh.push (W.kdv_tup [])).push (excO C hh.objs.size), gg, dw, tk, os⟩) :
    codeAny (model prog w) A (.call (.ref C) ⟨[], kw⟩) R ⟨hh, gg, dw, tk, os⟩ := by
  have f1 := tc_lookup
  have f2 := tc_bind (.ref C)
  have isT : (⟨hh, gg, dw, tk, os⟩ : Shared).TypeIs (.ref C) "type" := ⟨_, hC, rfl⟩
  refine codeAny_of_tree ?_
  show wpAny _ _ (callAny (.ref C) _) _ _ _
  repeat (any_goals (first | assumption | with_reducible refine wpAny_loadPart_at hC ?_ | wp_step))
  refine ⟨rfl, ?_⟩
  refine codeAny_call_builtin_at (Code.quiet_builtin _ (by decide +kernel)) entry_typeCall
    (wpAny_check_type_call_sub hC (kw_type F hT hC hi hb ?_))
  refine codeAny_mono hq fun r s' z => ?_
  rcases r with e | (v | _ | _ | _) <;> exact z
end
end KwX
end PySem
end T_KwExc
section T_ErrR
set_option Elab.async false
set_option linter.all false
set_option maxRecDepth 100000
set_option maxHeartbeats 4000000
/-! Exceptions as values: made, kept, read, asked for their class. -/
namespace ErrX
open PySem PySem.Spec PyProof.Rows L2
/-- at a: an exception of the class at C, with a dict of its own that holds fs, or (no __init__ of its own) without one -/
def ErrAt (H : Hp) (a C : Addr) (fs : List (Str × V)) : Prop :=
  (fs = [] ∧ H a = some (ExO (.ref C) a)) ∨ ∃ dx, H a = some (exo a C (some dx)) ∧ H dx = some (exd dx fs)
theorem ErrAt.on {H H' : Hp} {a C : Addr} {fs : List (Str × V)} (x : ErrAt H a C fs) (k : ∀ b φ, H b = some (.ext φ) → H' b = some (.ext φ)) : ErrAt H' a C fs := by
  rcases x with ⟨e, h⟩ | ⟨dx, h1, h2⟩
  · exact .inl ⟨e, k _ _ h⟩
  · exact .inr ⟨dx, k _ _ h1, k _ _ h2⟩
section
variable {X : Cx} {pins : List (Addr × Obj)} {σ : L2.St} {H : Hp} {s : Shared} {a C : Addr} {fs : List (Str × V)}
theorem ErrAt.inst (I : Inv X pins σ H s) (x : ErrAt H a C fs) : ∃ oe od, PySem.W.InstAt s.heap a oe C od := by
  rcases x with ⟨_, h⟩ | ⟨dx, h1, h2⟩
  · obtain ⟨⟨oe, vs, hg, hz, hd, _⟩, _, _⟩ := I.hok a _ h
    obtain ⟨oc, od, dt, sl⟩ := oe
    obtain ⟨z1, z2⟩ := hz
    dsimp only at z1 z2 hd
    subst z1 z2 hd
    exact ⟨_, none, hg, rfl, rfl, trivial⟩
  · obtain ⟨t1, hg⟩ := exo_at I.hok h1
    obtain ⟨mA, ⟨o, es, ep, ho, _⟩, _⟩ := exd_at I.hok h2
    exact ⟨_, some o, hg, rfl, rfl, ho⟩
/-- what is asked of the class for that -/
structure ErrC (K : PySem.W.Frag) (C : Addr) : Prop where
  cl : (PySem.W.clsIn K C).isSome = true
  is : ExcC K C
/-- isinstance(e, c), e such an exception -/
def rIsX (K : PySem.W.Frag) : List V → Hp → VK → Prop := fun xs H Q => ∃ (a C : Addr) (fs : List (Str × V)) (c : V) (cv : Value) (b : Bool),
  xs = [.ref a, c] ∧ ErrAt H a C fs ∧ ErrC K C ∧ (∀ u, RelV c u → u = cv) ∧ PySem.W.kitOne K (.ref C) cv = some b ∧ Q (.bl b) H
theorem call_isX : CallR X (.builtin "isinstance") (rIsX X.K) := by
  intro pins s σ H xs us Q I r h
  obtain ⟨a, C, fs, c, cv, b, rfl, ea, T, hcv, e, q⟩ := h
  obtain ⟨u1, u2, rfl, r1, r2⟩ := vals2 r
  cases r1
  have ec := hcv _ r2
  subst ec
  obtain ⟨oe, od, J⟩ := ea.inst I
  exact PySem.W.kia_one (PySem.W.kitx_exc T.cl T.is.hg T.is.hk T.is.hs T.is.ha T.is.hn T.is.ht T.is.hm) I.kIn J e (fun z => nomatch z) fun tk => ⟨.bl b, H, I.tok tk, rfl, q⟩
/-- e.n -/
def tFldX (K : PySem.W.Frag) (n : Str) (te : TE) : TE := fun σ H Q => te σ H fun x H1 => ∃ (a C dx : Addr) (fs : List (Str × V)) (v : V),
  x = .ref a ∧ XfC K C ∧ PySem.W.findIn K (.ref C) n = some none ∧ H1 a = some (exo a C (some dx)) ∧ H1 dx = some (exd dx fs) ∧ fs.lookup n = some v ∧ Q v H1
theorem pe_fldX {e : Expr} {te : TE} {pos : Pos} {n : Str} (he : PE X e te) (hb : attributeBase e n X.env (eval e X.env) = eval e X.env := by rfl) :
    PE X (.Attribute e n pos) (tFldX X.K n te) := by
  refine ⟨fun pins s σ H Q I h => ?_⟩
  refine attr_of hb (thn (he.run pins s σ H _ I h) fun u s1 hx => ?_)
  obtain ⟨x, H1, I1, rx, a, C, dx, fs, v, ex, T, hno, ea, ed, l, q⟩ := hx
  subst ex
  obtain rfl : u = Value.ref a := rx
  obtain ⟨t1, hg⟩ := exo_at I1.hok ea
  obtain ⟨mA, hns, hr⟩ := exd_at I1.hok ed
  obtain ⟨od, ho, hl⟩ := lookIn_ns hns
  obtain ⟨y, hy, ry⟩ := RelO.some_of (v := v) (o := mA n) (by rw [← l]; exact hr n)
  have J : PySem.W.InstAt s1.heap a _ C (some od) := ⟨hg, rfl, rfl, ho⟩
  exact HandSPX.exc_get I1.kIn J T.ga T.gg T.exC (PySem.W.findObj_own T.hdC hno rfl (by rw [hl, hy])) (handed_of ry) ⟨v, H1, I1.tok _, ry, q⟩
end
/-! ### made -/
/-- C(e, ..) -/
def tErrP (C : Addr) (sp : Sp) (ta : TA) : TE := fun σ H Q => ta σ H fun vs H1 => vs.length ≤ 1000 ∧
  ∀ a, H1 a = none → sp (.ref a :: vs) (upd H1 a (exo a C none)) (fun v H2 => v = .non ∧ Q (.ref a) H2) E0
/-- C(k = e, ..) -/
def tErrK (C : Addr) (sp : Sp) (n : Nat) (gV : List V → List V → List V) (tk : TA) : TE := fun σ H Q => tk σ H fun zs H1 => zs.length = n ∧
  ∀ a, H1 a = none → sp (gV [.ref a] zs) (upd H1 a (exo a C none)) (fun v H2 => v = .non ∧ Q (.ref a) H2) E0
/-- C(), no __init__ of its own -/
def tErr0 (C : Addr) : TE := fun _ H Q => ∀ a, H a = none → Q (.ref a) (upd H a (ExO (.ref C) a))
section
variable {X : Cx} {x : Str} {C fI : Addr} {k : Nat} {fd : FuncData} {ps ks : List Str} {sp : Sp} {e : Expr} {es : List Expr} {ta tk : TA} {p pos : Pos} {kws : List Keyword}
variable {g : List Value → List Value → List Value} {gV : List V → List V → List V}
theorem errSlot {pins : List (Addr × Obj)} {σ : L2.St} {H : Hp} {s : Shared} (I : Inv X pins σ H s) (us : List Value) :
    Inv X pins σ (upd H (s.heap.objs.size + 1) (exo (s.heap.objs.size + 1) C none))
      { s with heap := (s.heap.push (PySem.W.kdv_tup us)).push (PySem.HandSPX.excO C s.heap.objs.size) } := by
  have hget : ((s.heap.push (PySem.W.kdv_tup us)).push (PySem.HandSPX.excO C s.heap.objs.size)).get? (s.heap.objs.size + 1) = some (PySem.HandSPX.excO C s.heap.objs.size) := by
    heap_get
  exact I.laid (t' := s.toks) (fun b o q => Heap.get?_push_of_some _ (Heap.get?_push_of_some _ q)) (Nat.le_succ _) (exo_ok hget)
theorem pe_errP (T : OexC X.K C) (iC : PySem.W.findIn X.K (.ref C) "__init__" = some (some (.ref fI))) (tI : PySem.W.typeIn X.K (.ref fI) = some (.type "function"))
    (F1 : FnOk X.prog X.w X.K X.mg X.base CX0 k fI fd ps sp) (hr : Room (k + 1) X.A) (hb : Binds X.K fd ps []) (hm : X.mg x = some (.ref C)) (hg : Gl X x) (ha : PA X (e :: es) ta)
    (hdb : (x == ("__debug__" : Str)) = false := by decide) (he : starEach (e :: es) X.env = (false, eval e X.env) :: starEach es X.env := by rfl)
    (hpl : (backTo pos (starEach es X.env)).any (·.1) = false := by rfl) : PE X (.Call (.Name x p) (e :: es) [] pos) (tErrP C sp ta) := by
  refine ⟨fun pins s σ H Q I h => ?_⟩
  obtain ⟨nm, q, N, bs, bm, sn, sub, ab, col, dd, k0, k1, k2, k3, k5, hC, hbm⟩ := T.cls
  refine wpAny_Call_Name_kw (ld_glob I hg hm ?_ hdb)
  refine PySem.W.callWith_K (h₀ := X.base) I.ok.mod.kin T.kC (thn (ha.run pos pins s σ H _ I h) fun us s1 hx => ?_) he hpl
  obtain ⟨vs, H1, I1, r1, hz, q1⟩ := hx
  refine ⟨I1.kIn, ?_⟩
  show wpAny _ _ (call (.ref C) us) _ _ _
  have free : H1 (s1.heap.objs.size + 1) = none := I1.hok.fresh (Nat.le_succ _)
  have want := q1 _ free
  have I2 := errSlot (C := C) I1 us
  have r2 : Vals (V.ref (s1.heap.objs.size + 1) :: vs) (Value.ref (s1.heap.objs.size + 1) :: us) := .cons rfl r1
  have many : (Value.ref (s1.heap.objs.size + 1) :: us ++ []).length = ps.length := by
    rw [List.append_nil]
    exact r2.length.symm.trans (F1.len _ _ _ _ want)
  have room : us.length ≤ sizeLine := by
    rw [← Paired.length r1, sizeLine_eq]
    omega
  have binds := hb _ (Value.ref (s1.heap.objs.size + 1) :: us) I2.kIn many
  rw [List.append_nil] at binds
  obtain ⟨hp, gs, dr, t1, os⟩ := s1
  refine wpAny_call (PySem.HandSPX.call_own F.excBase_ValueError (fun Y => PySem.HandSPX.refsVE_contains Y bm hbm) (I1.kIn _ _ hC)
    (PySem.W.looks_findIn I1.kIn iC) (fun self => PySem.W.bind_fn I1.kIn self tI) room
    (codeAny_mono (F1.run _ X.stack _ _ ⟨Value.ref (hp.objs.size + 1) :: us, []⟩ (Value.ref (hp.objs.size + 1) :: us) _ _ E0 (hr.make C us []) (I2.env0.make C us []) binds r2 want) fun r s' z => ?_))
  cases r with
  | error er => exact z.elim
  | ok fl =>
    cases fl with
    | ret u =>
      obtain ⟨v, H', I3, rv, ev, q3⟩ := I2.after z
      subst ev
      exact ⟨rv, ⟨V.ref (hp.objs.size + 1), H', I3, rfl, q3⟩⟩
    | next => exact False.elim z
    | brk => exact False.elim z
    | cont => exact False.elim z
theorem pe_errK (T : OexC X.K C) (iC : PySem.W.findIn X.K (.ref C) "__init__" = some (some (.ref fI))) (tI : PySem.W.typeIn X.K (.ref fI) = some (.type "function"))
    (F1 : FnOk X.prog X.w X.K X.mg X.base CX0 k fI fd ps sp) (hr : Room (k + 1) X.A) (hb : KBn X.K fd ps 1 ks g gV) (hm : X.mg x = some (.ref C)) (hg : Gl X x) (hkw : PK X kws tk)
    (hall : (backToKw pos (keywordEach kws X.env)).all (·.1.isSome) = true := by rfl) (hks : (backToKw pos (keywordEach kws X.env)).filterMap (·.1) = ks := by rfl)
    (hdb : (x == ("__debug__" : Str)) = false := by decide)
    (hpl : ((backTo pos (starEach [] X.env)).any (·.1) || (backToKw pos (keywordEach kws X.env)).any (·.1.isNone)) = false := by rfl) :
    PE X (.Call (.Name x p) [] kws pos) (tErrK C sp ks.length gV tk) := by
  refine ⟨fun pins s σ H Q I h => ?_⟩
  obtain ⟨nm, q, N, bs, bm, sn, sub, ab, col, dd, k0, k1, k2, k3, k5, hC, hbm⟩ := T.cls
  refine wpAny_Call_Name_kw (ld_glob I hg hm ?_ hdb)
  refine PySem.W.callWith_KW0 (h₀ := X.base) I.ok.mod.kin T.kC hall ?_ hpl
  refine thn (hkw.run pos pins s σ H _ I h) fun ws s1 hx => ?_
  obtain ⟨zs, H1, I1, rz, l1, q1⟩ := hx
  refine ⟨I1.kIn, ?_⟩
  rw [hks]
  have free : H1 (s1.heap.objs.size + 1) = none := I1.hok.fresh (Nat.le_succ _)
  have want := q1 _ free
  have I2 := errSlot (C := C) I1 []
  have r2 := hb.rel (vs := [V.ref (s1.heap.objs.size + 1)]) (us := [Value.ref (s1.heap.objs.size + 1)]) (.cons rfl .nil) rz
  have binds := hb.to _ [Value.ref (s1.heap.objs.size + 1)] ws I2.kIn rfl (rz.length.symm.trans l1)
  obtain ⟨hp, gs, dr, t1, os⟩ := s1
  refine wpAny_call (PySem.KwX.kw_call F.excBase_ValueError (fun Y => PySem.HandSPX.refsVE_contains Y bm hbm) (I1.kIn _ _ hC)
    (PySem.W.looks_findIn I1.kIn iC) (fun self => PySem.W.bind_fn I1.kIn self tI)
    (codeAny_mono (F1.run _ X.stack _ _ ⟨[Value.ref (hp.objs.size + 1)], ks.zip ws⟩ _ _ _ E0 (hr.make C [] (ks.zip ws)) (I2.env0.make C [] (ks.zip ws)) binds r2 want) fun r s' z => ?_))
  cases r with
  | error er => exact z.elim
  | ok fl =>
    cases fl with
    | ret u =>
      obtain ⟨v, H', I3, rv, ev, q3⟩ := I2.after z
      subst ev
      exact ⟨rv, ⟨V.ref (hp.objs.size + 1), H', I3, rfl, q3⟩⟩
    | next => exact False.elim z
    | brk => exact False.elim z
    | cont => exact False.elim z
theorem pe_err0 {bmB : List Value} {B newId initId : String} (F : ExcBaseFacts B newId initId bmB) (q : PySem.W.excIn X.K C bmB newId = true) (kC : PySem.W.keepIn X.K (.ref C) = true) (hm : X.mg x = some (.ref C)) (hg : Gl X x)
    (hdb : (x == ("__debug__" : Str)) = false := by decide) : PE X (.Call (.Name x p) [] [] pos) (tErr0 C) := by
  refine ⟨fun pins s σ H Q I h => ?_⟩
  refine wpAny_Call_Name_kw (ld_glob I hg hm ?_ hdb)
  refine PySem.W.callWith_K0 I.kIn kC ?_
  show wpAny _ _ (call (.ref C) []) _ _ _
  obtain ⟨bm, N, nm, qn, bs, hdct, sn, sub, ab, col, dd, k0, k1, k2, k3, k5, mN, hC, hN, hni, T⟩ := exc_obj I.kIn q
  refine wpAny_call_exc_subT F T hC hN hni (fun h' a hm => ?_) (Nat.zero_le _)
  have hn : H a = none := I.hok.gone hm.new
  obtain ⟨t, ht, _, _⟩ := hm.there
  exact ⟨.ref a, _, I.laidN hm.keeps hm.new hn (exO_ok ht ⟨rfl, rfl⟩ rfl rfl rfl (show 4 < 6 by decide)), rfl, h a hn⟩
end
end ErrX
end T_ErrR
section T_LamR
set_option Elab.async false
set_option linter.all false
set_option maxRecDepth 100000
set_option maxHeartbeats 4000000
/-! A lambda with parameters as a value: made, kept, called. -/
namespace LamV
open PySem PySem.Spec PyProof.Rows L2 LamX NdefX
/-- at f: the lambda of these words, its code object at c -/
def LamO (f : Addr) (q : Str) (params : Arguments) (body : Expr) (scope : Scope) (cl : List (Str × Addr)) (c : Addr) : HO :=
  .ext fun h => ∃ pm ctv : Value, h.get? f = some (PySem.W.kla_obj "<lambda>" q params body scope cl pm c ctv)
section
variable {X : Cx} {pins : List (Addr × Obj)} {σ : L2.St} {H : Hp} {s : Shared} {q : Str} {params : Arguments} {body : Expr} {scope : Scope} {cl : List (Str × Addr)} {c : Addr}
theorem lamO_at {P : Program} {w : World} {h : Heap} {f : Addr} (ok : HOk P w H h) (e : H f = some (LamO f q params body scope cl c)) :
    ∃ pm ctv : Value, h.get? f = some (PySem.W.kla_obj "<lambda>" q params body scope cl pm c ctv) := (ok f _ e).1
theorem lamO_new {h' : Heap} {t' : Nat} {pm ctv : Value} (I : Inv X pins σ H s) (k : ∀ b o, s.heap.get? b = some o → h'.get? b = some o) (z : s.heap.objs.size ≤ h'.objs.size) :
    Inv X pins σ (upd H h'.objs.size (LamO h'.objs.size q params body scope cl c))
      { s with heap := h'.push (PySem.W.kla_obj "<lambda>" q params body scope cl pm c ctv), toks := t' } := by
  have at_ : (h'.push (PySem.W.kla_obj "<lambda>" q params body scope cl pm c ctv)).get? h'.objs.size = some (PySem.W.kla_obj "<lambda>" q params body scope cl pm c ctv) :=
    Heap.get?_push_size _ rfl
  refine I.laid (a := h'.objs.size) (fun b o e => Heap.get?_push_of_some _ (k b o e)) z ?_
  exact ⟨⟨pm, ctv, at_⟩, ⟨_, at_⟩, fun h1 h2 y st => y.elim fun p1 y => y.elim fun c1 y => ⟨p1, c1, st _ y⟩⟩
/-- the reading of «lambda ..: ..»: a new function object; what was known but the tables stays -/
def tLamV (T : List (Addr × Str)) (mk : Addr → Addr → HO) (q : Str) : TE := fun _ H Q => Tabs T H ∧
  ∀ (f c' : Addr) (H1 : Hp), ExtN H H1 → (∀ b, H1 b = none → H b = none) → Tabs T H1 → H f = none → f ≠ c' → H1 f = some (mk f c') → H1 c' = some (CodeO c' q) → Q (.ref f) H1
theorem pe_lamV {T : List (Addr × Str)} {cd P : Addr} {pos : Pos} (TB : TabB X.base X.mg cd P) (hcode : X.env.code = .ref cd)
    (hm : (P, X.env.qual ++ "<lambda>") ∈ T) (hu : ∀ p ∈ T, p.1 = P → p.2 = X.env.qual ++ "<lambda>")
    (hdef : defaultsOf params X.env = ([], []) := by rfl) (hclo : cloFrom X.env.cells scope.names [] = [] := by rfl)
    (hfree : ∀ y ∈ scope.names, y.2 = .free → ∃ c, X.env.cells.lookup y.1 = some c) :
    PE X (.Lambda params body scope pos) (tLamV T (fun f c' => LamO f (X.env.qual ++ "<lambda>") params body scope [] c') (X.env.qual ++ "<lambda>")) := by
  refine ⟨fun pins s σ H Q I h => ?_⟩
  obtain ⟨hT, h⟩ := h
  obtain ⟨ps, hP, ht, ha⟩ := hT _ hm
  have tabAt : s.heap.get? P = some { cls := .none, data := .fields ps } := I.hok P _ hP
  have clo := closure_ok hfree
  rw [hclo] at clo
  refine PySem.W.kla_eval hdef ?_
  cases hc : codeAmong pos ps.toList with
  | some cv =>
    obtain ⟨c', e, hco⟩ := ha pos cv hc
    subst e
    refine PySem.W.kla_makeFunctionHit (mg := X.mg) (c := cd) (P := P) (ps := ps) clo I.ok.glob (I.mod.glob.keeps I.bk) hcode (TB.code.keeps I.bk) tabAt ht hc (TB.bm.keeps I.bk) fun ctv h' tk hx hsz => ?_
    have free : H h'.objs.size = none := I.hok.fresh hsz
    have J := lamO_new (t' := tk) (q := X.env.qual ++ "<lambda>") (params := params) (body := body) (scope := scope) (cl := []) (c := c') (pm := (X.mg "__name__").getD .none) (ctv := ctv) I hx hsz
    have apart : h'.objs.size ≠ c' := fun z => by
      rw [← z, free] at hco
      cases hco
    refine ⟨.ref h'.objs.size, _, J, rfl, h _ c' _ (fun b o e _ => (upd_ne (ne_of_none e free)).trans e) (fun b e => upd_none e) (hT.ext fun b o e => (upd_ne (ne_of_none e free)).trans e) free apart upd_same ?_⟩
    exact (upd_ne apart.symm).trans hco
  | none =>
    refine PySem.W.kla_makeFunction (mg := X.mg) (c := cd) (P := P) (ps := ps) clo I.ok.glob (I.mod.glob.keeps I.bk) hcode (TB.code.keeps I.bk) tabAt ht hc TB.gP (TB.bm.keeps I.bk) fun c' ctv h' tk hx hge hlt hrec htb => ?_
    obtain ⟨c2, oc, vs, t, e2, hoc, hd, hv⟩ := hrec
    cases e2
    have sz : s.heap.objs.size ≤ h'.objs.size := Nat.le_trans hge (Nat.le_of_lt hlt)
    have freeC : H c' = none := I.hok.fresh hge
    have freeF : H h'.objs.size = none := I.hok.fresh sz
    have apart : h'.objs.size ≠ c' := Nat.ne_of_gt hlt
    have J1 := inv_table (t' := tk) (q := X.env.qual ++ "<lambda>") (more := #[rawInt pos.line, rawInt pos.col, .ref c']) (h' := h') I hP (fun b o hb e => hx b o hb e) htb hge ⟨oc, vs, t, hoc, hd, hv⟩
    have J := lamO_new (t' := tk) (q := X.env.qual ++ "<lambda>") (params := params) (body := body) (scope := scope) (cl := []) (c := c') (pm := (X.mg "__name__").getD .none) (ctv := ctv) (h' := h') J1 (fun _ _ e => e) (Nat.le_refl _)
    have others : ∀ b o, H b = some o → (∀ y, o ≠ .tbl y) → upd (upd H P (.tbl (ps ++ #[rawInt pos.line, rawInt pos.col, .ref c']))) c' (CodeO c' (X.env.qual ++ "<lambda>")) b = some o := fun b o e n => by
      have nb : b ≠ P := fun z => by
        rw [z, hP] at e
        exact n ps (Option.some.inj e).symm
      rw [upd_ne (ne_of_none e freeC), upd_ne nb]
      exact e
    have more : (ps ++ #[rawInt pos.line, rawInt pos.col, .ref c']).toList = ps.toList ++ [rawInt pos.line, rawInt pos.col, .ref c'] := by simp
    have tabs : Tabs T (upd (upd H P (.tbl (ps ++ #[rawInt pos.line, rawInt pos.col, .ref c']))) c' (CodeO c' (X.env.qual ++ "<lambda>"))) := by
      intro p hp
      by_cases hb : p.1 = P
      · have pn := hu p hp hb
        rw [pn, hb]
        refine ⟨_, (upd_ne (ne_of_none hP freeC)).trans upd_same, ?_, ?_⟩
        · rw [more]
          exact PySem.TriplesOk_snoc _ _ _ _ ht
        · intro p' cv hcv
          rw [more] at hcv
          rcases among_app _ ht hcv with z | z
          · obtain ⟨c0, e1, e2⟩ := ha p' cv z
            exact ⟨c0, e1, others _ _ e2 codeO_ne⟩
          · exact ⟨c', z, upd_same⟩
      · obtain ⟨ps', a1, a2, a3⟩ := hT p hp
        refine ⟨ps', (upd_ne (ne_of_none a1 freeC)).trans ((upd_ne hb).trans a1), a2, ?_⟩
        intro p' cv hcv
        obtain ⟨c0, e1, e2⟩ := a3 p' cv hcv
        exact ⟨c0, e1, others _ _ e2 codeO_ne⟩
    have freeF1 : upd (upd H P (.tbl (ps ++ #[rawInt pos.line, rawInt pos.col, .ref c']))) c' (CodeO c' (X.env.qual ++ "<lambda>")) h'.objs.size = none := J1.hok.fresh (Nat.le_refl _)
    refine ⟨.ref h'.objs.size, _, J, rfl, h _ c' _ (fun b o e n => ?_) (fun b e => upd_none (upd_none (upd_none e))) (tabs.ext fun b o e => (upd_ne (ne_of_none e freeF1)).trans e) freeF apart upd_same ?_⟩
    · have e1 := others b o e n
      exact (upd_ne (ne_of_none e1 freeF1)).trans e1
    · exact (upd_ne apart.symm).trans upd_same
end
/-! ### called -/
abbrev lamNF (q : Str) (params : Arguments) (scope : Scope) (c : Addr) : NF := ⟨"<lambda>", q, params, [], scope, [], c⟩
/-- the function at f, called with as many things as ps, keeps sp -/
def LamOk (P : Program) (w : World) (K : PySem.W.Frag) (mg : Str → Option Value) (base : Heap) (k : Nat) (f : Addr) (o : HO) (cO : Addr × HO) (n : Nat) (sp : Sp) : Prop :=
  ∀ (A : Around) (outer : List Env) (s : Shared) (H : Hp) (us : List Value) (vs : List V) (Q : VK), Room k A → Env0 P w K mg base A outer s H → H f = some o → H cO.1 = some cO.2 → Vals vs us → vs.length = n → sp vs H Q E0 →
    codeAny (model P w) A (.call (.ref f) ⟨us, []⟩) (CR CX0 outer P w H s Q E0) s
section
variable {P : Program} {w : World} {K : PySem.W.Frag} {mg : Str → Option Value} {base : Heap} {k : Nat} {f c : Addr} {q : Str} {params : Arguments} {body : Expr} {scope : Scope} {N ps : List Str} {sp : Sp}
theorem lam_ok (S : NScope N ps [] scope)
    (hb : ∀ (pm cv ctv : Value) (us : List Value), us.length = ps.length → bindArgs (PySem.W.kla_fn "<lambda>" q params body scope [] pm cv ctv) ⟨us, []⟩ = pure (ps.zip us))
    (hbody : ∀ (A : Around) (outer : List Env) (s : Shared) (H : Hp), Room k (A.deeper (envF (lamNF q params scope c) f s.heap.objs.size)) →
      ∃ tb, PE (ncx CX0 P w K mg base N (lamNF q params scope c) f A outer s H E0) body tb ∧ ∀ vs Q, vs.length = ps.length → sp vs H Q E0 → tb (startF N vs []) H Q) :
    LamOk P w K mg base (k + 1) f (LamO f q params body scope [] c) (c, CodeO c q) ps.length sp := by
  intro A outer s H us vs Q hr e0 hf hc r hl hsp
  have lim : s.heap.NoLimit := e0.mod.nolimit.keeps fun b o e => (e0.bs b o e).1
  obtain ⟨pm, ctv, hg⟩ := lamO_at e0.hok hf
  refine PySem.W.kla_callFunE hr.depth hg rfl S.co S.gen rfl (codeO_at e0.hok hc) ?_
  rw [hb pm _ ctv us (r.length.symm.trans hl)]
  refine wpAny_pure (wpAny_newFunctionEnv S.nocell (fun y hy => S.par y.1 (List.of_mem_zip hy).1) (fun h₁ hns hsb => ⟨lim.fresh _ hsb, ?_⟩) S.kind)
  have kp : ∀ b o, s.heap.get? b = some o → h₁.get? b = some o := fun b o e => hsb.extBut b o (Nat.ne_of_lt (Heap.lt_size e)) (Heap.get?_push_of_some _ e)
  have nocells : CellsAt (lamNF q params scope c).cl [] [] s.heap H := ⟨rfl, fun y a e => (nomatch e), fun x y a e => (nomatch e), fun i y e => by simp at e⟩
  obtain ⟨tb, hpe, hq⟩ := hbody A outer s H (hr.deeper _)
  have J : Inv (ncx CX0 P w K mg base N (lamNF q params scope c) f A outer s H E0) [] (startF N vs []) H { s with heap := h₁, toks := s.toks + (ps.zip us).length } := inv_startN S hr.hd e0 hl r nocells hns kp
  refine PySem.W.kla_codeExpr (wpAny_mono (hpe.run [] _ _ H Q J (hq vs Q hl hsp)) (fun u s' hx => ?_) fun e s' hx => hx)
  obtain ⟨v, H', J', rv, z⟩ := hx
  exact ⟨v, H', J'.os, J'.bare, J'.base, J'.hok, rv, z⟩
end
/-- x(e, ..), x a local name that holds such a function -/
def tCallV (P : Program) (w : World) (K : PySem.W.Frag) (mg : Str → Option Value) (base : Heap) (k i : Nat) (ta : TA) : TE := fun σ H Q => ∃ f q params body scope c, σ[i]? = some (some (.ref f)) ∧ H f = some (LamO f q params body scope [] c) ∧
  ta σ H fun vs H1 => ∃ sp, LamOk P w K mg base k f (LamO f q params body scope [] c) (c, CodeO c q) vs.length sp ∧ H1 f = some (LamO f q params body scope [] c) ∧ H1 c = some (CodeO c q) ∧ sp vs H1 Q E0
theorem pe_callV {X : Cx} {i k : Nat} {x : Str} {p pos : Pos} {e : Expr} {es : List Expr} {ta : TA} (hr : Room k X.A) (ha : PA X (e :: es) ta)
    (hN : X.N[i]? = some x := by rfl) (hv : Vis X.env.scope x := by first | exact Or.inl rfl | exact Or.inr (Or.inl rfl) | exact Or.inr (Or.inr rfl))
    (hdb : (x == ("__debug__" : Str)) = false := by decide) (hcd : (x == ("__classdict__" : Str)) = false := by decide)
    (he : starEach (e :: es) X.env = (false, eval e X.env) :: starEach es X.env := by rfl) (hpl : (backTo pos (starEach es X.env)).any (·.1) = false := by rfl) :
    PE X (.Call (.Name x p) (e :: es) [] pos) (tCallV X.prog X.w X.K X.mg X.base k i ta) := by
  refine ⟨fun pins s σ H Q I h => ?_⟩
  obtain ⟨f, q, params, body, scope, c, hs, hf, ht⟩ := h
  refine wpAny_Call_Name_kw (thn ((pe_var (pos := p) hN hv hdb hcd).run pins s σ H (fun v H1 => v = .ref f ∧ H1 = H) I ⟨.ref f, hs, rfl, rfl⟩) fun u s1 ⟨v, H1, I1, r1, q1⟩ => ?_)
  obtain ⟨rfl, rfl⟩ := q1
  cases r1
  have isF : ∀ {H2 : Hp} {s2 : Shared}, Inv X pins σ H2 s2 → H2 f = some (LamO f q params body scope [] c) → PySem.W.FnAt f s2.heap := fun {H2 s2} J e => by
    obtain ⟨pm, ctv, hg⟩ := lamO_at J.hok e
    exact ⟨_, _, _, _, hg⟩
  refine PySem.W.callWith_F (first := []) (isF I1 hf) (thn (ha.run pos pins s1 σ H1 _ I1 ht) fun us s2 hx => ?_) he hpl
  obtain ⟨vs, H2, I2, r, sp, ok, hf2, hc2, hsp⟩ := hx
  refine ⟨isF I2 hf2, wpAny_call (codeAny_mono (ok X.A X.stack s2 H2 us vs Q hr I2.env0 hf2 hc2 r rfl hsp) fun r s' z => ?_)⟩
  cases r with
  | error er => exact z.elim
  | ok fl =>
    cases fl with
    | ret u => exact I2.after z
    | next => exact False.elim z
    | brk => exact False.elim z
    | cont => exact False.elim z
end LamV
end T_LamR
section T_K0Draw
set_option Elab.async false
set_option linter.all false
set_option maxRecDepth 100000
set_option maxHeartbeats 4000000
namespace K0
open PySem PySem.Spec PyProof.Rows L2
abbrev sStart : Stmt := top 86
abbrev sDraw : Stmt := top 87
abbrev sMixed : Stmt := top 88
theorem scStart : FnScope ["script"] ["script"] (defScope sStart) := ⟨rfl, rfl, rfl, by decide +kernel, rfl, by decide +kernel, by decide +kernel⟩
theorem scDraw : FnScope ["stream", "many", "cell", "digit", "mixed"] ["stream", "many"] (defScope sDraw) := ⟨rfl, rfl, rfl, by decide +kernel, rfl, by decide +kernel, by decide +kernel⟩
theorem scMixed : FnScope ["stream", "some", "left"] ["stream", "some"] (defScope sMixed) := ⟨rfl, rfl, rfl, by decide +kernel, rfl, by decide +kernel, by decide +kernel⟩
/-- a spring of draws at p, its cells at l; at most n were drawn -/
structure Spring (H : Hp) (p l : Addr) (n : Nat) : Prop where
  at_ : ∃ a b c : Int, H p = some (.lst [.ref l, .int a, .int b, .int c]) ∧ 0 ≤ a ∧ 0 ≤ b ∧ b ≤ n ∧ 0 ≤ c ∧ c < 2147483647
  cells : ∃ ns : List Int, H l = some (.lst (ns.map V.int)) ∧ ns.length ≤ 63
/-- all but the spring stands -/
def Kept (H H' : Hp) (p l : Addr) : Prop := ∀ b o, b ≠ p → b ≠ l → H b = some o → H' b = some o
def spDraw : Sp := fun vs H Q _ => ∃ (p l : Addr) (n : Nat) (m : Int), vs = [.ref p, .int m] ∧ Spring H p l n ∧ p ≠ l ∧ n < 1000000 ∧ 1 ≤ m ∧ m < 1000000 ∧
  ∀ (d : Int) (H' : Hp), 0 ≤ d → d < m → Spring H' p l (n + 1) → Kept H H' p l → Q (.int d) H'
section
variable {P : Program} {w : World} {K : PySem.W.Frag} {mg : Str → Option Value} {base : Heap}
/-- the names that the module leaves to the built-ins -/
def Frees (mg : Str → Option Value) : Prop := ∀ x ∈ frees, mg x = none
theorem dp_ints {H : Hp} : ∀ ns : List Int, DpAll K H (ns.map V.int) (ns.map PyData.int)
  | [] => .nil
  | n :: r => .cons (.int n) (dp_ints r)
theorem eq_nil : ∀ ns : List Int, PyData.eqv (.list (ns.map PyData.int)) (.list []) = ns.isEmpty
  | [] => by simp [PyData.eqv, PyData.eqvAll]
  | n :: r => by simp [PyData.eqv, PyData.eqvAll]
/-! ### a loop left in one place -/
def UpE (t : TE) : Prop := ∀ σ H (Q Q' : VK), (∀ v H1, Q v H1 → Q' v H1) → t σ H Q → t σ H Q'
def UpT (t : TT) : Prop := ∀ σ H (Q Q' : Bool → Hp → Prop), (∀ b H1, Q b H1 → Q' b H1) → t σ H Q → t σ H Q'
def UpA (t : TA) : Prop := ∀ σ H (Q Q' : List V → Hp → Prop), (∀ v H1, Q v H1 → Q' v H1) → t σ H Q → t σ H Q'
def UpR (r : R2) : Prop := ∀ x y H (Q Q' : VK), (∀ v H1, Q v H1 → Q' v H1) → r x y H Q → r x y H Q'
theorem up_var (i : Nat) : UpE (tVar i) := fun _ _ _ _ k ⟨v, e, q⟩ => ⟨v, e, k _ _ q⟩
theorem up_c (v : V) : UpE (tC v) := fun _ _ _ _ k q => k _ _ q
theorem up_op {r : R2} {ta tb : TE} (hr : UpR r) (ha : UpE ta) (hb : UpE tb) : UpE (tOp r ta tb) := fun σ H Q Q' k h => ha σ H _ _ (fun x H1 h => hb σ H1 _ _ (fun y H2 h => hr x y H2 Q Q' k h) h) h
theorem up_test {t : TE} (h : UpE t) : UpT (tTest t) := fun σ H Q Q' k q => h σ H _ _ (fun x H1 ⟨b, e, q⟩ => ⟨b, e, k _ _ q⟩) q
theorem up_and {t u : TT} (ht : UpT t) (hu : UpT u) : UpT (tAnd t u) := fun σ H Q Q' k q => ht σ H _ _ (fun c H1 q => by
  cases c with
  | true => exact iteT (hu σ H1 Q Q' k (by simpa using q))
  | false => exact iteF (k _ _ (by simpa using q))) q
theorem up_nil : UpA tNil := fun _ _ _ _ k q => k _ _ q
theorem up_lst {t : TA} (h : UpA t) : UpE (tLst t) := fun σ H Q Q' k q => h σ H _ _ (fun xs H1 ⟨z, q⟩ => ⟨z, fun p hp => k _ _ (q p hp)⟩) q
theorem up_eq : UpR rEq := fun _ _ _ _ _ k ⟨e, q⟩ => ⟨e, k _ _ q⟩
theorem up_ix (K : PySem.W.Frag) : UpR (rIxL K) := fun _ _ _ _ _ k ⟨p, xs, i, v, e1, e2, e3, e4, q⟩ => ⟨p, xs, i, v, e1, e2, e3, e4, k _ _ q⟩
theorem up_neD (K : PySem.W.Frag) : UpR (rNeD K) := fun _ _ _ _ _ k ⟨d, e, h1, h2, h3, h4, q⟩ => ⟨d, e, h1, h2, h3, h4, k _ _ q⟩
theorem while_out {c : TT} {tb : TS} {D : Ends} {σ : L2.St} {H : Hp} (Pv Px : L2.St → Hp → Prop) (μ : L2.St → Hp → Nat) (h0 : Pv σ H)
    (hs : ∀ σ H, Pv σ H → c σ H fun b H1 => if b = true then tb { D with nx := fun σ' H' => Pv σ' H' ∧ μ σ' H' < μ σ H, ct := fun σ' H' => Pv σ' H' ∧ μ σ' H' < μ σ H, bk := D.nx } σ H1 else Px σ H1)
    (hx : ∀ σ H, Px σ H → D.nx σ H) (mono : UpT c) : tWhile c tb D σ H :=
  while_by Pv μ h0 (fun σ H p => mono σ H _ _ (fun b H1 q => by
    cases b with
    | true => exact iteT (by simpa using q)
    | false => exact iteF (hx σ H1 (by simpa using q))) (hs σ H p)) mono
theorem ok_draw {f : Addr} {fd : FuncData} (F : FunD K "_law_draw" "_law_draw" (defArgs sDraw) (defBody sDraw) (defScope sDraw) [] [] f fd) (fr : Frees mg) :
    FnOk P w K mg base CX0 1 f fd ["stream", "many"] spDraw := by
  have mi : mg "int" = none := fr "int" (by decide +kernel)
  refine F.ok scDraw (fun vs H Q E h => ?_) (fun cdv A outer s H vs Q E hr h => ?_)
  · obtain ⟨p, l, n, m, rfl, _⟩ := h
    rfl
  obtain ⟨p, l, n, m, rfl, S, npl, hn, hm1, hm2, k⟩ := h
  refine ⟨_, PSs.nox (pss_cons (ps_asg (pe_op op_add (pe_ix ix_list (pv 0) pe_int (fun _ _ => rfl)) pe_int) (pg_sub (pv 0) pe_int set_list))
    (pss_cons (ps_while PassesOwn.never
        (PW.pt (pw_and (pt_cmpR op_eq (pe_ix ix_list (pv 0) pe_int (fun _ _ => rfl)) pe_int (nomark _)) (pw_and1 (pt_cmpR (op_neD hr.units) (pe_ix ix_list (pv 0) pe_int (fun _ _ => rfl)) (pe_lst pa_nil) (nomark _)))))
        (pss_cons (ps_set (i := 2) scDraw.nd rfl (.inl rfl) (pe_bm PySem.F.plainAttrs_list PySem.F.slot_list_pop PySem.F.type_list_pop mt_popAt (pe_ix ix_list (pv 0) pe_int (fun _ _ => rfl)) (pa_cons pe_int pa_nil)))
        (pss_cons (ps_asg (pe_op op_mod (pe_callTy call_int1 (by rfl) mi (by decide +kernel) (pa_cons (pe_op op_add (pe_op op_add (pe_op op_mul (pe_ix ix_list (pv 0) pe_int (fun _ _ => rfl)) pe_int) (pv 2)) pe_int) pa_nil)) pe_int) (pg_sub (pv 0) pe_int set_list))
        (pss_one (ps_asg (pe_ifExp (pt_cmpR op_ge (pv 2) (pe_op op_pow pe_int pe_int) (nomark _)) (pv 2) pe_int) (pg_sub (pv 0) pe_int set_list))))))
    (pss_cons (ps_if (pt_cmpR op_gt (pe_ix ix_list (pv 0) pe_int (fun _ _ => rfl)) pe_int (nomark _))
        (pss_cons (ps_set (i := 3) scDraw.nd rfl (.inl rfl) (pe_op op_mod (pe_callTy call_int1 (by rfl) mi (by decide +kernel) (pa_cons (pe_ix ix_list (pv 0) pe_int (fun _ _ => rfl)) pa_nil)) (pv 1)))
        (pss_cons (ps_asg (pe_op op_fdiv (pe_ix ix_list (pv 0) pe_int (fun _ _ => rfl)) (pv 1)) (pg_sub (pv 0) pe_int set_list))
        (pss_one (ps_ret (pv 3))))) pss_nil)
    (pss_cons (ps_set (i := 4) scDraw.nd rfl (.inl rfl) (pe_op op_mod (pe_callTy call_int1 (by rfl) mi (by decide +kernel) (pa_cons (pe_op op_pow (pe_op op_add (pe_op op_add (pe_ix ix_list (pv 0) pe_int (fun _ _ => rfl)) (pe_op op_mul pe_int (pe_ix ix_list (pv 0) pe_int (fun _ _ => rfl)))) pe_int) pe_int) pa_nil)) pe_int))
    (pss_one (ps_ret (pe_op op_mod (pe_op op_mod (pe_callTy call_int1 (by rfl) mi (by decide +kernel) (pa_cons (pe_op op_pow (pe_op op_add (pe_op op_add (pe_op op_mul (pv 4) pe_int) (pe_op op_mul pe_int (pe_ix ix_list (pv 0) pe_int (fun _ _ => rfl)))) pe_int) pe_int) pa_nil)) pe_int) (pv 1)))))))), ?_⟩
  obtain ⟨⟨a, b, c, hp, ha, hb0, hb, hc0, hc⟩, ⟨ns, hl, hns⟩⟩ := S
  refine ⟨.ref p, rfl, p, _, 2, .int b, rfl, rfl, SqL.of hp, rfl, _, _, rfl, rfl, ?_⟩
  refine ⟨.ref p, rfl, p, _, 2, 2, rfl, rfl, hp, rfl, ?_⟩
  have hp1 : upd H p (.lst (List.set [V.ref l, V.int a, V.int b, V.int c] 2 (V.int (b + 1)))) p = some (.lst [V.ref l, V.int a, V.int (b + 1), V.int c]) := upd_same
  refine while_out (fun σ H' => ∃ (a c : Int) (ns : List Int) (y : Option V), σ = [some (.ref p), some (.int m), y, none, none] ∧ H' p = some (.lst [V.ref l, V.int a, V.int (b + 1), V.int c]) ∧ 0 ≤ a ∧ 0 ≤ c ∧ c < 2147483647 ∧
      H' l = some (.lst (ns.map V.int)) ∧ ns.length ≤ 63 ∧ Kept H H' p l)
    (fun σ H' => ∃ (a c : Int) (ns : List Int) (y : Option V), σ = [some (.ref p), some (.int m), y, none, none] ∧ H' p = some (.lst [V.ref l, V.int a, V.int (b + 1), V.int c]) ∧ 0 ≤ a ∧ 0 ≤ c ∧ c < 2147483647 ∧
      H' l = some (.lst (ns.map V.int)) ∧ ns.length ≤ 63 ∧ Kept H H' p l)
    (fun σ H' => match H' l with
      | some (.lst xs) => xs.length
      | _ => 0)
    ⟨a, c, ns, none, rfl, hp1, ha, hc0, hc, ?_, hns, ?_⟩ ?_ ?_ (up_and (up_test (up_op up_eq (up_op (up_ix _) (up_var 0) (up_c _)) (up_c _))) (up_test (up_op (up_neD _) (up_op (up_ix _) (up_var 0) (up_c _)) (up_lst up_nil))))
  · rw [upd_ne npl.symm]
    exact hl
  · intro q o h1 h2 e
    rw [upd_ne h1]
    exact e
  · rintro σ H1 ⟨a, c, ns, y, rfl, hp, ha, hc0, hc, hl, hns, kp⟩
    refine ⟨_, rfl, p, _, 1, .int a, rfl, rfl, SqL.of hp, rfl, rfl, _, rfl, ?_⟩
    refine ite2 (fun e => ?_) (fun e => ?_)
    · have az : a = 0 := V.int.inj (of_decide_eq_true e)
      subst az
      refine ⟨_, rfl, p, _, 0, .ref l, rfl, rfl, SqL.of hp, rfl, Nat.zero_le _, fun q hq => ?_⟩
      have qp : p ≠ q := ne_of_none hp hq
      have ql : l ≠ q := ne_of_none hl hq
      have hp2 : upd H1 q (.lst []) p = some (.lst [V.ref l, V.int 0, V.int (b + 1), V.int c]) := (upd_ne qp).trans hp
      have hl2 : upd H1 q (.lst []) l = some (.lst (ns.map V.int)) := (upd_ne ql).trans hl
      refine ⟨.list (ns.map PyData.int), .list [], .lst (SqL.of hl2) (dp_ints ns), .lst (SqL.of upd_same) .nil, PySem.W.shaped_ints ns, rfl, _, rfl, ?_⟩
      rw [eq_nil ns]
      cases ns with
      | nil =>
        refine iteF ?_
        exact ⟨0, c, [], y, rfl, hp2, Int.le_refl 0, hc0, hc, hl2, by decide, fun b' o h1 h2 e => (upd_ne (ne_of_none (kp _ _ h1 h2 e) hq)).trans (kp _ _ h1 h2 e)⟩
      | cons z r =>
        refine iteT ?_
        refine ⟨.ref p, rfl, p, _, 0, .ref l, rfl, rfl, SqL.of hp2, rfl, .inl ⟨rfl, _, SqL.of hl2⟩, l, _, 0, 0, .int z, rfl, rfl, hl2, by decide, by decide, seqIndex?_zero (by rw [List.length_map]; exact Nat.succ_pos _), rfl, ?_⟩
        have e1 : List.eraseIdx (List.map V.int (z :: r)) 0 = r.map V.int := rfl
        rw [e1]
        have hp3 : upd (upd H1 q (.lst [])) l (.lst (r.map V.int)) p = some (.lst [V.ref l, V.int 0, V.int (b + 1), V.int c]) := (upd_ne npl).trans hp2
        refine ⟨.ref p, rfl, p, _, 3, .int c, rfl, rfl, SqL.of hp3, rfl, _, _, rfl, rfl, .inl ⟨by omega, by omega⟩, .int z, rfl, _, _, rfl, rfl, _, _, rfl, rfl, .inl ⟨_, rfl, _, _, rfl, rfl, (by show (0 : Int) < 2147483647; decide), ?_⟩⟩
        refine ⟨.ref p, rfl, p, _, 3, 3, rfl, rfl, hp3, rfl, ?_⟩
        have c1 : 0 ≤ (c * 8191 + z + 3) % 2147483647 := Int.emod_nonneg _ (by decide)
        have c2 : (c * 8191 + z + 3) % 2147483647 < 2147483647 := Int.emod_lt_of_pos _ (by decide)
        refine ⟨.int z, rfl, _, _, rfl, rfl, ⟨by decide, by decide, by decide⟩, _, _, rfl, rfl, _, rfl, ?_⟩
        have stay : ∀ x : Int, Kept H (upd (upd (upd (upd H1 q (.lst [])) l (.lst (r.map V.int))) p (.lst (List.set [V.ref l, V.int 0, V.int (b + 1), V.int c] 3 (V.int ((c * 8191 + z + 3) % 2147483647))))) p (.lst (List.set (List.set [V.ref l, V.int 0, V.int (b + 1), V.int c] 3 (V.int ((c * 8191 + z + 3) % 2147483647))) 1 (V.int x)))) p l := fun x b' o h1 h2 e => by
          have e2 := kp _ _ h1 h2 e
          rw [upd_ne h1, upd_ne h1, upd_ne h2, upd_ne (ne_of_none e2 hq)]
          exact e2
        have less : r.length < (List.map V.int (z :: r)).length := by
          rw [List.length_map]
          exact Nat.lt_succ_self _
        refine ite2 (fun big => ⟨.int z, rfl, ?_⟩) (fun small => ?_)
        · have zb : (10 : Int) ^ 18 ≤ z := of_decide_eq_true big
          refine ⟨.ref p, rfl, p, _, 1, 1, rfl, rfl, upd_same, rfl, ⟨z, _, r, some (.int z), rfl, upd_same, by omega, c1, c2, ?_, ?_, stay z⟩, ?_⟩
          · rw [upd_ne npl.symm, upd_ne npl.symm, upd_same]
          · have := hns
            rw [List.length_cons] at this
            omega
          · dsimp only
            rw [upd_ne npl.symm, upd_ne npl.symm, upd_same, hl]
            dsimp only
            rw [List.length_map]
            exact less
        · refine ⟨.ref p, rfl, p, _, 1, 1, rfl, rfl, upd_same, rfl, ⟨0, _, r, some (.int z), rfl, upd_same, Int.le_refl 0, c1, c2, ?_, ?_, stay 0⟩, ?_⟩
          · rw [upd_ne npl.symm, upd_ne npl.symm, upd_same]
          · have := hns
            rw [List.length_cons] at this
            omega
          · dsimp only
            rw [upd_ne npl.symm, upd_ne npl.symm, upd_same, hl]
            dsimp only
            rw [List.length_map]
            exact less
    · exact iteF ⟨a, c, ns, y, rfl, hp, ha, hc0, hc, hl, hns, kp⟩
  · rintro σ H1 ⟨a, c, ns, y, rfl, hp, ha, hc0, hc, hl, hns, kp⟩
    have b1 : b + 1 ≤ ((n + 1 : Nat) : Int) := by omega
    refine ⟨.ref p, rfl, p, _, 1, .int a, rfl, rfl, SqL.of hp, rfl, _, _, rfl, rfl, _, rfl, ?_⟩
    refine ite2 (fun pos => ?_) (fun zero => ?_)
    · refine ⟨.ref p, rfl, p, _, 1, .int a, rfl, rfl, SqL.of hp, rfl, .inl ⟨_, rfl, .int m, rfl, _, _, rfl, rfl, (by show (0 : Int) < m; omega), ?_⟩⟩
      refine ⟨.ref p, rfl, p, _, 1, .int a, rfl, rfl, SqL.of hp, rfl, .int m, rfl, _, _, rfl, rfl, ⟨by show (0 : Int) < m; omega, by show m < 1073741824; omega⟩, ?_⟩
      refine ⟨.ref p, rfl, p, _, 1, 1, rfl, rfl, hp, rfl, ?_⟩
      refine ⟨_, rfl, k _ _ (Int.emod_nonneg _ (by omega)) (Int.emod_lt_of_pos _ (by omega)) ⟨⟨a / m, b + 1, c, upd_same, Int.ediv_nonneg ha (by omega), by omega, b1, hc0, hc⟩, ⟨ns, (upd_ne npl.symm).trans hl, hns⟩⟩ fun b' o h1 h2 e => (upd_ne h1).trans (kp _ _ h1 h2 e)⟩
    · refine ⟨.ref p, rfl, p, _, 3, .int c, rfl, rfl, SqL.of hp, rfl, .ref p, rfl, p, _, 2, .int (b + 1), rfl, rfl, SqL.of hp, rfl, 7919, b + 1, rfl, rfl, .inl ⟨by decide, by decide⟩, _, _, rfl, rfl, _, _, rfl, rfl, _, _, rfl, rfl,
        ⟨by decide, by decide, by show (c + 7919 * (b + 1) + 104729).natAbs < 2 ^ 64; omega⟩, .inl ⟨_, rfl, _, _, rfl, rfl, (by show (0 : Int) < 2147483629; decide), ?_⟩⟩
      obtain ⟨M, eM, m1, m2⟩ : ∃ M : Int, (c + 7919 * (b + 1) + 104729) ^ Int.toNat 5 % 2147483629 = M ∧ 0 ≤ M ∧ M < 2147483629 := ⟨_, rfl, Int.emod_nonneg _ (by decide), Int.emod_lt_of_pos _ (by decide)⟩
      refine ⟨.int M, congrArg (fun z => some (some (V.int z))) eM, _, _, rfl, rfl, .inl ⟨by omega, by omega⟩, .ref p, rfl, p, _, 2, .int (b + 1), rfl, rfl, SqL.of hp, rfl, 30011, b + 1, rfl, rfl, .inl ⟨by decide, by decide⟩, _, _, rfl, rfl, _, _, rfl, rfl, _, _, rfl, rfl,
        ⟨by decide, by decide, by show (M * 48271 + 30011 * (b + 1) + 29).natAbs < 2 ^ 64; omega⟩, .inl ⟨_, rfl, _, _, rfl, rfl, (by show (0 : Int) < 1000000007; decide), .int m, rfl, _, _, rfl, rfl, (by show (0 : Int) < m; omega), ?_⟩⟩
      exact k _ _ (Int.emod_nonneg _ (by omega)) (Int.emod_lt_of_pos _ (by omega)) ⟨⟨a, b + 1, c, hp, ha, by omega, b1, hc0, hc⟩, ⟨ns, hl, hns⟩⟩ kp
end
end K0
end T_K0Draw
section T_K0Mix
set_option Elab.async false
set_option linter.all false
set_option maxRecDepth 100000
set_option maxHeartbeats 4000000
namespace K0
open PySem PySem.Spec PyProof.Rows L2
theorem Spring.on {H H' : Hp} {p l : Addr} {n : Nat} (S : Spring H p l n) (k : ∀ b o, H b = some o → H' b = some o) : Spring H' p l n := by
  obtain ⟨⟨a, b, c, hp, h⟩, ⟨ns, hl, hn⟩⟩ := S
  exact ⟨⟨a, b, c, k _ _ hp, h⟩, ⟨ns, k _ _ hl, hn⟩⟩
theorem Spring.mono {H : Hp} {p l : Addr} {n m : Nat} (S : Spring H p l n) (h : n ≤ m) : Spring H p l m := by
  obtain ⟨⟨a, b, c, hp, h0, h1, h2, h3⟩, z⟩ := S
  exact ⟨⟨a, b, c, hp, h0, h1, by omega, h3⟩, z⟩
def spStart (K : PySem.W.Frag) : Sp := fun vs H Q _ => ∃ (a : Addr) (ns : List Int), vs = [.ref a] ∧ SqL K H a (ns.map V.int) ∧ ns.length ≤ 63 ∧
  ∀ (p l : Addr) (H' : Hp), Spring H' p l 0 → p ≠ l → Same H H' → H p = none → H l = none → Q (.ref p) H'
theorem scMixedN : FnScope ["stream", "some", "left", "k"] ["stream", "some"] (defScope sMixed) := ⟨rfl, rfl, rfl, by decide +kernel, rfl, by decide +kernel, by decide +kernel⟩
def spMixed (K : PySem.W.Frag) : Sp := fun vs H Q _ => ∃ (p l a : Addr) (n : Nat) (xs : List V), vs = [.ref p, .ref a] ∧ Spring H p l n ∧ p ≠ l ∧ a ≠ p ∧ a ≠ l ∧ SqL K H a xs ∧ xs.length ≤ 1000 ∧ n + 2000 < 1000000 ∧
  ∀ (ys : List V) (q : Addr) (H' : Hp), ys.Perm xs → Spring H' p l (n + xs.length) → Kept H H' p l → H q = none → H' q = some (.lst ys) → Q (.ref q) H'
section
variable {P : Program} {w : World} {K : PySem.W.Frag} {mg : Str → Option Value} {base : Heap}
theorem ok_start {f : Addr} {fd : FuncData} (F : FunD K "_law_start" "_law_start" (defArgs sStart) (defBody sStart) (defScope sStart) [] [] f fd) (fr : Frees mg) :
    FnOk P w K mg base CX0 1 f fd ["script"] (spStart K) := by
  have ml : mg "list" = none := fr "list" (by decide +kernel)
  refine F.ok scStart (fun vs H Q E h => ?_) (fun cdv A outer s H vs Q E hr h => ?_)
  · obtain ⟨a, ns, rfl, _⟩ := h
    rfl
  obtain ⟨a, ns, rfl, hS, hn, k⟩ := h
  refine ⟨_, PSs.nox (pss_one (ps_ret (pe_lst (pa_cons (pe_callTy call_list_of (by rfl) ml (by decide +kernel) (pa_cons (pv 0) pa_nil)) (pa_cons pe_int (pa_cons pe_int (pa_cons pe_int pa_nil))))))), ?_⟩
  refine ⟨.ref a, rfl, a, _, rfl, .inl (hS), fun l hl => ?_⟩
  refine ⟨by show 4 ≤ sizeLine; decide, fun p hp => ?_⟩
  have lp : p ≠ l := fun z => by
    rw [z, upd_same] at hp
    cases hp
  refine k p l _ ⟨⟨0, 0, 11, upd_same, by decide, by decide, by decide, by decide, by decide⟩, ⟨ns, (upd_ne lp.symm).trans upd_same, hn⟩⟩ lp (fun b o e => ?_) ?_ hl
  · have e1 : upd H l (.lst (ns.map V.int)) b = some o := (upd_ne (ne_of_none e hl)).trans e
    exact (upd_ne (ne_of_none e1 hp)).trans e1
  · rw [upd_ne lp] at hp
    exact hp
/-- len(xs) -/
def rLenS (K : PySem.W.Frag) : List V → Hp → VK → Prop := fun xs H Q => ∃ p ys, xs = [.ref p] ∧ (SqL K H p ys ∨ SqT K H p ys) ∧ Q (.int (ys.length : Int)) H
theorem perm_erase : ∀ (l : List V) (i : Nat) (h : i < l.length), ([l[i]] ++ l.eraseIdx i).Perm l
  | x :: l, 0, _ => .refl _
  | x :: l, i + 1, h => by
    have ih := perm_erase l i (Nat.lt_of_succ_lt_succ h)
    exact (List.Perm.swap x (l[i]'(Nat.lt_of_succ_lt_succ h)) (l.eraseIdx i)).trans (ih.cons x)
theorem ok_mixed {f fD : Addr} {fd fdD : FuncData} (F : FunD K "_law_mixed" "_law_mixed" (defArgs sMixed) (defBody sMixed) (defScope sMixed) [] [] f fd)
    (FD : FunD K "_law_draw" "_law_draw" (defArgs sDraw) (defBody sDraw) (defScope sDraw) [] [] fD fdD) (gD : mg "_law_draw" = some (.ref fD)) (bD : Binds K fdD ["stream", "many"] []) (fr : Frees mg) :
    FnOk P w K mg base CX0 3 f fd ["stream", "some"] (spMixed K) := by
  have ml : mg "list" = none := fr "list" (by decide +kernel)
  have mr : mg "range" = none := fr "range" (by decide +kernel)
  have mn : mg "len" = none := fr "len" (by decide +kernel)
  have GD : FnOk P w K mg base CX0 1 fD fdD ["stream", "many"] spDraw := ok_draw FD fr
  refine F.ok scMixedN (fun vs H Q E h => ?_) (fun cdv A outer s H vs Q E hr h => ?_)
  · obtain ⟨p, l, a, n, xs, rfl, _⟩ := h
    rfl
  obtain ⟨p, l, a, n, xs, rfl, S, npl, nap, nal, hS, hx, hn, k⟩ := h
  refine' ⟨_, PSs.nox (pss_cons (ps_set (i := 2) scMixedN.nd rfl (.inr rfl) (pe_callTy call_list_of (by rfl) ml (by decide +kernel) (pa_cons (pv 1) pa_nil))) (pss_one (ps_ret ?comp))), ?rest⟩
  case comp =>
    refine' pe_lc (own := [("k", 3)]) (g := gName 3) (tt := tYes) (te := tBM K "list" rPopAt (tVar 2) (tCons (tCall spDraw [] E0 (tCons (tVar 0) (tCons (tCB (rLenS K) (tCons (tVar 2) tNil)) tNil))) tNil)) rfl scMixedN.nd (pi_range1 (by rfl) mr (pa_cons (pe_callB call_len_seq (by rfl) mn PySem.boot_len (pa_cons (pv 2) pa_nil)) pa_nil))
      (blkOk_by (own := [("k", 3)]) (N := ["stream", "some", "left", "k"]) (sc := defScope sMixed) (by decide +kernel)) (fun _ _ _ _ _ => pg_name (i := 3) scMixedN.nd rfl (Or.inl rfl)) (fun _ _ _ _ _ => pts_nil) ?he
    case he =>
      intro s' H' C' cl' fp'
      exact pe_bm PySem.F.plainAttrs_list PySem.F.slot_list_pop PySem.F.type_list_pop mt_popAt (pv 2) (pa_cons (pe_call GD (hr.mono (by decide)) (by rfl) gD FD.kp bD .nil pass0 (pa_cons (pv 0) (pa_cons (pe_callB call_len_seq (by rfl) mn PySem.boot_len (pa_cons (pv 2) pa_nil)) pa_nil))) pa_nil)
  have qp : p ≠ a := fun z => nap z.symm
  obtain ⟨⟨a0, b0, c0, hp, h0⟩, ⟨ns, hl, hns⟩⟩ := id S
  refine ⟨.ref a, rfl, a, xs, rfl, .inl hS, fun q hq => ?_⟩
  have pq : p ≠ q := ne_of_none hp hq
  have lq : l ≠ q := ne_of_none hl hq
  refine ⟨.ref q, rfl, q, xs, rfl, .inl (SqL.of upd_same), _, rfl, (by omega), (by omega), fun D hD => ?_⟩
  have qD : q ≠ D := fun z => by
    rw [← z, upd_same] at hD
    cases hD
  have hD0 : H D = none := by
    rw [upd_ne qD.symm] at hD
    exact hD
  have pD : p ≠ D := ne_of_none hp hD0
  have lD : l ≠ D := ne_of_none hl hD0
  refine lc_range (lo := 0) (n := xs.length) (fun i H' => ∃ cur acc : List V, H' q = some (.lst cur) ∧ H' D = some (.lst acc) ∧ (acc ++ cur).Perm xs ∧ acc.length = i ∧ Spring H' p l (n + i) ∧ ∀ b o, b ≠ p → b ≠ l → H b = some o → H' b = some o) ?_ ?_ ?_
  · refine ⟨xs, [], (upd_ne qD).trans upd_same, upd_same, .refl _, rfl, S.on fun b o e => ?_, fun b o _ _ e => ?_⟩
    · exact (upd_ne (ne_of_none e hD0)).trans ((upd_ne (ne_of_none e hq)).trans e)
    · exact (upd_ne (ne_of_none e hD0)).trans ((upd_ne (ne_of_none e hq)).trans e)
  · rintro i H1 hi ⟨cur, acc, hcur, hacc, pm, hlen, S1, kp⟩
    have many : acc.length + cur.length = xs.length := by
      rw [← List.length_append]
      exact pm.length_eq
    refine ⟨rfl, ?_⟩
    unfold tYes
    refine iteT ?_
    refine ⟨.ref q, rfl, .inl ⟨rfl, _, SqL.of hcur⟩, .ref p, rfl, .ref q, rfl, q, cur, rfl, .inl (SqL.of hcur), ?_⟩
    refine ⟨p, l, n + i, (cur.length : Int), rfl, S1, npl, by omega, by omega, by omega, fun d H2 d0 dm S2 k2 => ?_⟩
    have hq2 := k2 _ _ pq.symm lq.symm hcur
    have hD2 := k2 _ _ pD.symm lD.symm hacc
    have dlt : d.toNat < cur.length := by omega
    refine ⟨q, cur, d, d.toNat, cur[d.toNat], rfl, rfl, hq2, by omega, by omega, seqIndex_of d0 dm, List.getElem?_eq_getElem dlt, acc, (upd_ne qD.symm).trans hD2, small1000 (by omega), ?_⟩
    obtain ⟨⟨a1, b1, c1, hp1, h1⟩, ⟨ns1, hl1, hn1⟩⟩ := S2
    refine ⟨cur.eraseIdx d.toNat, acc ++ [cur[d.toNat]], (upd_ne qD).trans upd_same, upd_same, ?_, ?_, ⟨⟨a1, b1, c1, (upd_ne pD).trans ((upd_ne pq).trans hp1), h1⟩, ⟨ns1, (upd_ne lD).trans ((upd_ne lq).trans hl1), hn1⟩⟩, fun b o e1 e2 e => ?_⟩
    · rw [List.append_assoc]
      refine List.Perm.trans (List.Perm.append_left _ ?_) pm
      exact perm_erase cur d.toNat dlt
    · rw [List.length_append, hlen]
      rfl
    · exact (upd_ne (ne_of_none e hD0)).trans ((upd_ne (ne_of_none e hq)).trans (k2 _ _ e1 e2 (kp _ _ e1 e2 e)))
  · rintro H1 ⟨cur, acc, hcur, hacc, pm, hlen, S1, kp⟩
    have none_left : cur = [] := by
      have := pm.length_eq
      rw [List.length_append, hlen] at this
      exact List.length_eq_zero_iff.mp (by omega)
    rw [none_left, List.append_nil] at pm
    exact k acc D H1 pm S1 (fun b o e1 e2 e => kp b o e1 e2 e) hD0 hacc
end
end K0
end T_K0Mix
section T_K0Err
set_option Elab.async false
set_option linter.all false
set_option maxRecDepth 100000
set_option maxHeartbeats 4000000
namespace K0
open PySem PySem.Spec PyProof.Rows L2 LamX NdefX LamV ErrX
/-! ### what the text says of a class: its place in the order stands in Row -/
/-- f: its __init__, if it keeps something -/
structure ClsT (K : PySem.W.Frag) (mg : Str → Option Value) (face C f : Addr) (r : Row) : Prop where
  gC : mg r.x = some (.ref C)
  ox : OexC K C
  xf : XfC K C
  ec : ErrC K C
  no : ∀ n ∈ r.fs, PySem.W.findIn K (.ref C) n = some none
  init : r.fs ≠ [] → PySem.W.findIn K (.ref C) "__init__" = some (some (.ref f)) ∧ PySem.W.typeIn K (.ref f) = some (.type "function") ∧
    ∃ fd, FunD K "__init__" (r.x ++ ".__init__") (defArgs (initS r.i)) (defBody (initS r.i)) (defScope (initS r.i)) [] [] f fd
  bare : r.fs = [] → PySem.W.excIn K C He.veBase "ValueError.__new__" = true
  mro : ∃ cd, PySem.W.clsIn K C = some cd ∧ cd.mro = .ref C :: .ref face :: PySem.HandSPX.veTail
  ty : PySem.W.typeIn K (.ref C) = some (.type "type")
/-! ### __init__ -/
/-- self.f = f; self.g = g .. -/
def spInit (C : Addr) (fs : List Str) : Sp := fun vs H Q _ => ∃ (a : Addr) (ws : List V), vs = .ref a :: ws ∧ ws.length = fs.length ∧ H a = some (exo a C none) ∧
  ∀ (dx : Addr) (H' : Hp), H dx = none → dx ≠ a → H' a = some (exo a C (some dx)) → H' dx = some (exd dx (fs.zip ws).reverse) → (∀ b o, b ≠ a → H b = some o → H' b = some o) → Q .non H'
def Shape1 (f : Str) (st : Stmt) : Prop := FnScope ["self", f] ["self", f] (defScope st) ∧ (defScope st).names.lookup ("self" : Str) = some NameKind.local ∧ (defScope st).names.lookup f = some NameKind.local ∧
  ∃ p1 p2 p3 p4, defBody st = [.Assign [.Attribute (.Name "self" p1) f p2] (.Name f p3) p4] ∧ ∀ e : Env, swapsWith (.Name f p3) (some (.Attribute (.Name "self" p1) f p2)) p4.line e = pure false
def Shape2 (f g : Str) (st : Stmt) : Prop := FnScope ["self", f, g] ["self", f, g] (defScope st) ∧ (defScope st).names.lookup ("self" : Str) = some NameKind.local ∧ (defScope st).names.lookup f = some NameKind.local ∧ (defScope st).names.lookup g = some NameKind.local ∧
  ∃ p1 p2 p3 p4 q1 q2 q3 q4, defBody st = [.Assign [.Attribute (.Name "self" p1) f p2] (.Name f p3) p4, .Assign [.Attribute (.Name "self" q1) g q2] (.Name g q3) q4] ∧
    (∀ e : Env, swapsWith (.Name f p3) (some (.Attribute (.Name "self" p1) f p2)) p4.line e = pure false) ∧ ∀ e : Env, swapsWith (.Name g q3) (some (.Attribute (.Name "self" q1) g q2)) q4.line e = pure false
/-- a name of a field: none of Python's own odd ones -/
def Plain (f : Str) : Prop := (f == ("__debug__" : Str)) = false ∧ (f == ("__classdict__" : Str)) = false
section
variable {P : Program} {w : World} {K : PySem.W.Frag} {mg : Str → Option Value} {base : Heap} {q : Str} {st : Stmt} {fI : Addr} {fd : FuncData} {f g : Str}
theorem ok_init1 {C : Addr} (T : OexC K C) (hno : PySem.W.findIn K (.ref C) f = some none) (S : Shape1 f st) (pf : Plain f) (F : FunD K "__init__" q (defArgs st) (defBody st) (defScope st) [] [] fI fd) :
    FnOk P w K mg base CX0 1 fI fd ["self", f] (spInit C [f]) := by
  obtain ⟨sc, l1, l2, p1, p2, p3, p4, body, sw⟩ := S
  refine F.ok sc (fun vs H Q E h => ?_) (fun cdv A outer s H vs Q E hr h => ?_)
  · obtain ⟨a, ws, rfl, hl, _⟩ := h
    show ws.length + 1 = 2
    rw [hl]
    rfl
  obtain ⟨a, ws, rfl, hl, ha, k⟩ := h
  obtain ⟨v, rfl⟩ : ∃ v, ws = [v] := by
    match ws, hl with
    | [v], _ => exact ⟨v, rfl⟩
  rw [body]
  refine ⟨_, PSs.nox (pss_one (ps_ost (pv 0 rfl (.inl l1)) (pv 1 rfl (.inl l2) pf.1 pf.2) (sw _))), ?_⟩
  refine ⟨v, rfl, .ref a, rfl, a, C, rfl, T, hno, .inl ⟨ha, fun dx hd ne => ?_⟩⟩
  exact k dx _ hd ne upd_same ((upd_ne ne).trans upd_same) fun b o nb e => (upd_ne nb).trans ((upd_ne (ne_of_none e hd)).trans e)
theorem ok_init2 {C : Addr} (T : OexC K C) (hno1 : PySem.W.findIn K (.ref C) f = some none) (hno2 : PySem.W.findIn K (.ref C) g = some none) (S : Shape2 f g st) (pf : Plain f) (pg : Plain g) (F : FunD K "__init__" q (defArgs st) (defBody st) (defScope st) [] [] fI fd) :
    FnOk P w K mg base CX0 1 fI fd ["self", f, g] (spInit C [f, g]) := by
  obtain ⟨sc, l1, l2, l3, p1, p2, p3, p4, q1, q2, q3, q4, body, sw1, sw2⟩ := S
  refine F.ok sc (fun vs H Q E h => ?_) (fun cdv A outer s H vs Q E hr h => ?_)
  · obtain ⟨a, ws, rfl, hl, _⟩ := h
    show ws.length + 1 = 3
    rw [hl]
    rfl
  obtain ⟨a, ws, rfl, hl, ha, k⟩ := h
  obtain ⟨v, u, rfl⟩ : ∃ v u, ws = [v, u] := by
    match ws, hl with
    | [v, u], _ => exact ⟨v, u, rfl⟩
  rw [body]
  refine ⟨_, PSs.nox (pss_cons (ps_ost (pv 0 rfl (.inl l1)) (pv 1 rfl (.inl l2) pf.1 pf.2) (sw1 _)) (pss_one (ps_ost (pv 0 rfl (.inl l1)) (pv 2 rfl (.inl l3) pg.1 pg.2) (sw2 _)))), ?_⟩
  refine ⟨v, rfl, .ref a, rfl, a, C, rfl, T, hno1, .inl ⟨ha, fun dx hd ne => ?_⟩⟩
  refine ⟨u, rfl, .ref a, rfl, a, C, rfl, T, hno2, .inr ⟨dx, [(f, v)], upd_same, (upd_ne ne).trans upd_same, (by show 1 ≤ 900; decide), ?_⟩⟩
  exact k dx _ hd ne ((upd_ne ne.symm).trans upd_same) upd_same fun b o nb e => (upd_ne (ne_of_none e hd)).trans ((upd_ne nb).trans ((upd_ne (ne_of_none e hd)).trans e))
end
/-! ### the lambdas: what they tell of an exception -/
def lamPar (p : Pos) : Arguments := { posonlyargs := [], args := [{ arg := "e", annotation := none, pos := p : PySem.Arg }], vararg := none, kwonlyargs := [], kw_defaults := [], kwarg := none, defaults := [] }
def lamSc : Scope := { kind := .function, names := [(("e" : Str), NameKind.local)], isGenerator := false, isCoroutine := false, more := [] }
theorem lamScN : NScope ["e"] ["e"] [] lamSc := nscope_by (by decide +kernel)
/-- fvs: what the exception keeps; ws: what is told of it -/
def spGot (C : Addr) (fvs : List (Str × V)) (ws : List V) : Sp := fun vs H Q _ => ∃ a, vs = [.ref a] ∧ ErrAt H a C fvs ∧ ∀ q, H q = none → Q (.ref q) (upd H q (.lst ws))
section
variable {P : Program} {w : World} {K : PySem.W.Frag} {mg : Str → Option Value} {base : Heap} {fn c C : Addr} {q : Str} {f g : Str} {p p1 p2 p3 p4 p5 : Pos} {x y : V}
theorem lam_ok0 : LamOk P w K mg base 2 fn (LamO fn q (lamPar p) (.List [] p1) lamSc [] c) (c, CodeO c q) 1 (spGot C [] []) :=
  lam_ok (ps := ["e"]) (N := ["e"]) lamScN (fun pm cv ctv us h => match us, h with | [_], _ => rfl) fun A outer s H hr => ⟨_, pe_lst pa_nil, fun vs Q hl h => by
    obtain ⟨a, rfl, ea, k⟩ := h
    exact ⟨Nat.zero_le _, fun d hd => k d hd⟩⟩
theorem lam_ok1 (pf : Plain f) (xf : XfC K C) (no : PySem.W.findIn K (.ref C) f = some none) (hb : ∀ (X : Cx), attributeBase (.Name "e" p1) f X.env (eval (.Name "e" p1) X.env) = eval (.Name "e" p1) X.env) :
    LamOk P w K mg base 2 fn (LamO fn q (lamPar p) (.List [.Attribute (.Name "e" p1) f p2] p3) lamSc [] c) (c, CodeO c q) 1 (spGot C [(f, x)] [x]) :=
  lam_ok (ps := ["e"]) (N := ["e"]) lamScN (fun pm cv ctv us h => match us, h with | [_], _ => rfl) fun A outer s H hr => ⟨_, pe_lst (pa_cons (pe_fldX (pv 0) (hb _)) pa_nil), fun vs Q hl h => by
    obtain ⟨a, rfl, ea, k⟩ := h
    rcases ea with ⟨z, _⟩ | ⟨dx, h1, h2⟩
    · cases z
    · exact ⟨.ref a, rfl, a, C, dx, [(f, x)], x, rfl, xf, no, h1, h2, by simp [List.lookup], (by show 1 ≤ sizeLine; decide), fun d hd => k d hd⟩⟩
theorem lam_ok2 (fg : (f == g) = false) (xf : XfC K C) (no1 : PySem.W.findIn K (.ref C) f = some none) (no2 : PySem.W.findIn K (.ref C) g = some none)
    (hb1 : ∀ (X : Cx), attributeBase (.Name "e" p1) f X.env (eval (.Name "e" p1) X.env) = eval (.Name "e" p1) X.env) (hb2 : ∀ (X : Cx), attributeBase (.Name "e" p3) g X.env (eval (.Name "e" p3) X.env) = eval (.Name "e" p3) X.env) :
    LamOk P w K mg base 2 fn (LamO fn q (lamPar p) (.List [.Attribute (.Name "e" p1) f p2, .Attribute (.Name "e" p3) g p4] p5) lamSc [] c) (c, CodeO c q) 1 (spGot C [(g, y), (f, x)] [x, y]) :=
  lam_ok (ps := ["e"]) (N := ["e"]) lamScN (fun pm cv ctv us h => match us, h with | [_], _ => rfl) fun A outer s H hr => ⟨_, pe_lst (pa_cons (pe_fldX (pv 0) (hb1 _)) (pa_cons (pe_fldX (pv 0) (hb2 _)) pa_nil)), fun vs Q hl h => by
    obtain ⟨a, rfl, ea, k⟩ := h
    rcases ea with ⟨z, _⟩ | ⟨dx, h1, h2⟩
    · cases z
    · exact ⟨.ref a, rfl, a, C, dx, _, x, rfl, xf, no1, h1, h2, by simp [List.lookup, fg], .ref a, rfl, a, C, dx, _, y, rfl, xf, no2, h1, h2, by simp [List.lookup], (by show 2 ≤ sizeLine; decide), fun d hd => k d hd⟩⟩
end
/-! ### a made row: (mine, twin, field, due) -/
/-- what the place of a row is about: the class, what its exceptions keep, what is due -/
structure Spec1 where
  C : Addr
  fvs : List (Str × V)
  ws : List V
structure MadeAt (P : Program) (w : World) (K : PySem.W.Frag) (mg : Str → Option Value) (base : Heap) (H : Hp) (t : Addr) (S : Spec1) : Prop where
  ex : ∃ (e1 e2 fn l c : Addr) (q : Str) (params : Arguments) (body : Expr) (scope : Scope), H t = some (.tup [.ref e1, .ref e2, .ref fn, .ref l]) ∧ ErrAt H e1 S.C S.fvs ∧ ErrAt H e2 S.C S.fvs ∧
    H fn = some (LamO fn q params body scope [] c) ∧ H c = some (CodeO c q) ∧ H l = some (.lst S.ws) ∧ LamOk P w K mg base 2 fn (LamO fn q params body scope [] c) (c, CodeO c q) 1 (spGot S.C S.fvs S.ws)
theorem MadeAt.on {P : Program} {w : World} {K : PySem.W.Frag} {mg : Str → Option Value} {base : Heap} {H H' : Hp} {t : Addr} {S : Spec1} (m : MadeAt P w K mg base H t S) (k : ExtN H H') : MadeAt P w K mg base H' t S := by
  obtain ⟨e1, e2, fn, l, c, q, params, body, scope, h1, h2, h3, h4, h5, h6, h7⟩ := m.ex
  have kx : ∀ b φ, H b = some (.ext φ) → H' b = some (.ext φ) := fun b φ e => k b _ e fun ps z => by cases z
  exact ⟨e1, e2, fn, l, c, q, params, body, scope, k _ _ h1 (fun ps z => by cases z), h2.on kx, h3.on kx, kx _ _ h4, kx _ _ h5, k _ _ h6 (fun ps z => by cases z), h7⟩
inductive AllMade (P : Program) (w : World) (K : PySem.W.Frag) (mg : Str → Option Value) (base : Heap) (H : Hp) : List Addr → List Spec1 → Prop
  | nil : AllMade P w K mg base H [] []
  | cons {t : Addr} {ts : List Addr} {S : Spec1} {Ss : List Spec1} : MadeAt P w K mg base H t S → AllMade P w K mg base H ts Ss → AllMade P w K mg base H (t :: ts) (S :: Ss)
section
variable {P : Program} {w : World} {K : PySem.W.Frag} {mg : Str → Option Value} {base : Heap} {H H' : Hp}
theorem AllMade.on (k : ExtN H H') : ∀ {ts : List Addr} {Ss : List Spec1}, AllMade P w K mg base H ts Ss → AllMade P w K mg base H' ts Ss
  | _, _, .nil => .nil
  | _, _, .cons m r => .cons (m.on k) (AllMade.on k r)
theorem AllMade.snoc : ∀ {ts : List Addr} {Ss : List Spec1} {t : Addr} {S : Spec1}, AllMade P w K mg base H ts Ss → MadeAt P w K mg base H t S → AllMade P w K mg base H (ts ++ [t]) (Ss ++ [S])
  | _, _, _, _, .nil, m => .cons m .nil
  | _, _, _, _, .cons h r, m => .cons h (AllMade.snoc r m)
theorem AllMade.append : ∀ {ts us : List Addr} {Ss Us : List Spec1}, AllMade P w K mg base H ts Ss → AllMade P w K mg base H us Us → AllMade P w K mg base H (ts ++ us) (Ss ++ Us)
  | _, _, _, _, .nil, m => m
  | _, _, _, _, .cons h r, m => .cons h (AllMade.append r m)
theorem AllMade.len : ∀ {ts : List Addr} {Ss : List Spec1}, AllMade P w K mg base H ts Ss → ts.length = Ss.length
  | _, _, .nil => rfl
  | _, _, .cons _ r => congrArg Nat.succ r.len
theorem AllMade.at_ : ∀ {ts : List Addr} {Ss : List Spec1} {i : Nat} {S : Spec1}, AllMade P w K mg base H ts Ss → Ss[i]? = some S → ∃ t, ts[i]? = some t ∧ MadeAt P w K mg base H t S
  | _, _, _, _, .nil, h => by simp at h
  | t :: _, S :: _, 0, S', .cons m r, h => by
    have e : S = S' := Option.some.inj h
    exact ⟨t, rfl, e ▸ m⟩
  | _ :: ts, _ :: Ss, i + 1, S', .cons m r, h => AllMade.at_ (ts := ts) (Ss := Ss) (i := i) r h
end
/-- the heap without one object -/
def hid (b0 : Addr) (H : Hp) : Hp := fun b => if b = b0 then none else H b
theorem hid_ne {b0 b : Addr} {H : Hp} (h : b ≠ b0) : hid b0 H b = H b := if_neg h
theorem hid_some {b0 b : Addr} {H : Hp} {o : HO} (h : hid b0 H b = some o) : b ≠ b0 ∧ H b = some o := by
  unfold hid at h
  split at h
  · cases h
  · exact ⟨by assumption, h⟩
theorem hid_sub {b0 : Addr} {H : Hp} : ExtN (hid b0 H) H := fun b o h _ => (hid_some h).2
end K0
end T_K0Err
section T_K0Row
set_option Elab.async false
set_option linter.all false
set_option maxRecDepth 100000
set_option maxHeartbeats 4000000
namespace K0
open PySem PySem.Spec PyProof.Rows L2 LamX NdefX LamV ErrX
/-! ### how such an __init__ binds -/
def Bind1 (f : Str) (st : Stmt) : Prop := ∀ (q : Str) (kV doc pm : Value) (an : Option Addr) (cdv ct u v : Value),
  bindArgs (PySem.W.fnOf "__init__" q (defArgs st) (defBody st) (defScope st) .none kV doc pm an cdv ct) ⟨[u, v], []⟩ = pure [(("self" : Str), u), (f, v)] ∧
  bindArgs (PySem.W.fnOf "__init__" q (defArgs st) (defBody st) (defScope st) .none kV doc pm an cdv ct) ⟨[u], [(f, v)]⟩ = pure [(("self" : Str), u), (f, v)]
def Bind2 (f g : Str) (st : Stmt) : Prop := ∀ (q : Str) (kV doc pm : Value) (an : Option Addr) (cdv ct u v y : Value),
  bindArgs (PySem.W.fnOf "__init__" q (defArgs st) (defBody st) (defScope st) .none kV doc pm an cdv ct) ⟨[u, v, y], []⟩ = pure [(("self" : Str), u), (f, v), (g, y)] ∧
  bindArgs (PySem.W.fnOf "__init__" q (defArgs st) (defBody st) (defScope st) .none kV doc pm an cdv ct) ⟨[u], [(g, y), (f, v)]⟩ = pure [(("self" : Str), u), (f, v), (g, y)]
section
variable {K : PySem.W.Frag} {q f g : Str} {st : Stmt} {fI : Addr} {fd : FuncData}
theorem binds1 (B : Bind1 f st) (F : FunD K "__init__" q (defArgs st) (defBody st) (defScope st) [] [] fI fd) : L2.Binds K fd ["self", f] [] := by
  obtain ⟨oc, od, dV, kV, doc, pm, an, cdv, ct, osl, rfl, lk, hc, hD, hK⟩ := F.ex
  have e : dV = .none := hD.elim (fun h => h.2) fun h => absurd rfl h.1
  subst e
  intro s us _ hl
  rw [List.append_nil] at hl ⊢
  match us, hl with
  | [u, v], _ => exact .of_eq (B q kV doc pm an cdv ct u v).1
theorem kbinds1 (B : Bind1 f st) (F : FunD K "__init__" q (defArgs st) (defBody st) (defScope st) [] [] fI fd) : KBn K fd ["self", f] 1 [f] (fun us ws => us ++ ws) (fun vs zs => vs ++ zs) := by
  obtain ⟨oc, od, dV, kV, doc, pm, an, cdv, ct, osl, rfl, lk, hc, hD, hK⟩ := F.ex
  have e : dV = .none := hD.elim (fun h => h.2) fun h => absurd rfl h.1
  subst e
  refine ⟨fun s us ws _ h1 h2 => ?_, fun r1 r2 => r1.append r2⟩
  match us, ws, h1, h2 with
  | [u], [v], _, _ => exact .of_eq (B q kV doc pm an cdv ct u v).2
theorem binds2 (B : Bind2 f g st) (F : FunD K "__init__" q (defArgs st) (defBody st) (defScope st) [] [] fI fd) : L2.Binds K fd ["self", f, g] [] := by
  obtain ⟨oc, od, dV, kV, doc, pm, an, cdv, ct, osl, rfl, lk, hc, hD, hK⟩ := F.ex
  have e : dV = .none := hD.elim (fun h => h.2) fun h => absurd rfl h.1
  subst e
  intro s us _ hl
  rw [List.append_nil] at hl ⊢
  match us, hl with
  | [u, v, y], _ => exact .of_eq (B q kV doc pm an cdv ct u v y).1
theorem kbinds2 (B : Bind2 f g st) (F : FunD K "__init__" q (defArgs st) (defBody st) (defScope st) [] [] fI fd) : KBn K fd ["self", f, g] 1 [g, f] (fun us ws => us ++ ws.reverse) (fun vs zs => vs ++ zs.reverse) := by
  obtain ⟨oc, od, dV, kV, doc, pm, an, cdv, ct, osl, rfl, lk, hc, hD, hK⟩ := F.ex
  have e : dV = .none := hD.elim (fun h => h.2) fun h => absurd rfl h.1
  subst e
  refine ⟨fun s us ws _ h1 h2 => ?_, fun r1 r2 => r1.append (rev_vals r2)⟩
  match us, ws, h1, h2 with
  | [u], [y, v], _, _ => exact .of_eq (B q kV doc pm an cdv ct u v y).2
where
  rev_vals : ∀ {xs : List V} {us : List Value}, Vals xs us → Vals xs.reverse us.reverse := fun {xs us} r => by
    induction r with
    | nil => exact .nil
    | cons h t ih =>
      rw [List.reverse_cons, List.reverse_cons]
      exact ih.append (.cons h .nil)
end
/-! ### the rows -/
/-- between the rows: the list found at fnd holds what was made so far -/
structure Sofar (P : Program) (w : World) (K : PySem.W.Frag) (mg : Str → Option Value) (base : Heap) (T : List (Addr × Str)) (H0 : Hp) (fnd : Addr) (n : Nat) (ts : List Addr) (Ss : List Spec1) (H : Hp) : Prop where
  lst : H fnd = some (.lst (ts.map V.ref))
  new : H0 fnd = none
  ext : ExtN H0 H
  tabs : Tabs T H
  all : AllMade P w K mg base (hid fnd H) ts Ss
  len : ts.length = n
def tRow (P : Program) (w : World) (K : PySem.W.Frag) (mg : Str → Option Value) (base : Heap) (T : List (Addr × Str)) (S : V → V → Spec1) : TS := fun D σ H => ∃ (x y z : V) (H0 : Hp) (fnd : Addr) (n : Nat) (ts : List Addr) (Ss : List Spec1),
  σ = [some x, some y, some z, some (.ref fnd)] ∧ n < 500 ∧ Sofar P w K mg base T H0 fnd n ts Ss H ∧ ∀ (t : Addr) (H' : Hp), Sofar P w K mg base T H0 fnd (n + 1) (ts ++ [t]) (Ss ++ [S x y]) H' → D.nx σ H'
/-- where such a row runs -/
structure RowX (X : Cx) (T : List (Addr × Str)) : Prop where
  N : X.N = ([("x" : Str), "y", "z", "found"] : List Str)
  vx : Vis X.env.scope "x"
  vy : Vis X.env.scope "y"
  vf : Vis X.env.scope "found"
  hr : Room 3 X.A
  tb : ∃ cd Pt, TabB X.base X.mg cd Pt ∧ X.env.code = .ref cd ∧ (Pt, X.env.qual ++ "<lambda>") ∈ T ∧ ∀ p ∈ T, p.1 = Pt → p.2 = X.env.qual ++ "<lambda>"
theorem lamFree {X : Cx} : ∀ y ∈ lamSc.names, y.2 = .free → ∃ c, X.env.cells.lookup y.1 = some c := fun y hy e => by
  rcases List.mem_cons.mp hy with z | z
  · rw [z] at e
    cases e
  · cases z
/-- a list of ours is changed: the tables stand -/
theorem tabs_lst {T : List (Addr × Str)} {H H' : Hp} {b0 : Addr} {xs : List V} (t : Tabs T H) (h : H b0 = some (.lst xs)) (k : ∀ b o, b ≠ b0 → H b = some o → H' b = some o) : Tabs T H' := fun p hp => by
  obtain ⟨ps, h1, h2, h3⟩ := t p hp
  refine ⟨ps, k _ _ (ne_of h1 h (fun z => by cases z)) h1, h2, fun pos cv hc => ?_⟩
  obtain ⟨c, e1, e2⟩ := h3 pos cv hc
  exact ⟨c, e1, k _ _ (ne_of e2 h (fun z => by
    unfold CodeO at z
    cases z)) e2⟩
/-- the end of a row -/
theorem row_end {P : Program} {w : World} {K : PySem.W.Frag} {mg : Str → Option Value} {base : Heap} {T : List (Addr × Str)} {H0 H H1 H2 H3 : Hp} {fnd e1 e2 fn c l t : Addr} {n : Nat} {ts : List Addr} {Ss : List Spec1} {S : Spec1} {q : Str} {params : Arguments} {body : Expr} {scope : Scope} {Q : Hp → Prop}
    (hn : n < 500) (St : Sofar P w K mg base T H0 fnd n ts Ss H) (sm1 : ∀ b o, H b = some o → H1 b = some o) (sm2 : ∀ b o, H1 b = some o → H2 b = some o) (en : ExtN H2 H3) (tabs3 : Tabs T H3) (nl : H3 l = none) (nt : upd H3 l (.lst S.ws) t = none)
    (E1 : ErrAt H2 e1 S.C S.fvs) (E2 : ErrAt H2 e2 S.C S.fvs) (hfn : H3 fn = some (LamO fn q params body scope [] c)) (hc : H3 c = some (CodeO c q)) (ok : LamOk P w K mg base 2 fn (LamO fn q params body scope [] c) (c, CodeO c q) 1 (spGot S.C S.fvs S.ws))
    (k : ∀ H', Sofar P w K mg base T H0 fnd (n + 1) (ts ++ [t]) (Ss ++ [S]) H' → Q H') :
    rAppend (.ref fnd) [.ref t] (upd (upd H3 l (.lst S.ws)) t (.tup [.ref e1, .ref e2, .ref fn, .ref l])) (fun _ H' => Q H') := by
  have f3 : H3 fnd = some (.lst (ts.map V.ref)) := en _ _ (sm2 _ _ (sm1 _ _ St.lst)) fun ps z => by cases z
  have fl : fnd ≠ l := ne_of_none f3 nl
  have lt : t ≠ l := fun z => by
    rw [z, upd_same] at nt
    cases nt
  have nt3 : H3 t = none := by
    rw [upd_ne lt] at nt
    exact nt
  have ft : fnd ≠ t := ne_of_none f3 nt3
  have up5 : ∀ b o, H3 b = some o → upd (upd H3 l (.lst S.ws)) t (.tup [.ref e1, .ref e2, .ref fn, .ref l]) b = some o := fun b o e => (upd_ne (ne_of_none e nt3)).trans ((upd_ne (ne_of_none e nl)).trans e)
  have up6 : ∀ b o ys, b ≠ fnd → H3 b = some o → upd (upd (upd H3 l (.lst S.ws)) t (.tup [.ref e1, .ref e2, .ref fn, .ref l])) fnd (.lst ys) b = some o := fun b o ys nb e => (upd_ne nb).trans (up5 _ _ e)
  have len : (ts.map V.ref).length = n := by rw [List.length_map, St.len]
  refine ⟨fnd, _, .ref t, rfl, rfl, up5 _ _ f3, small1000 (by omega), k _ ⟨?_, St.new, ?_, ?_, ?_, ?_⟩⟩
  · rw [List.map_append]
    exact upd_same
  · intro b o e no
    have nb : b ≠ fnd := ne_of_none e St.new
    exact up6 _ _ _ nb (en _ _ (sm2 _ _ (sm1 _ _ (St.ext _ _ e no))) no)
  · exact tabs_lst tabs3 f3 fun b o nb e => up6 _ _ _ nb e
  · refine AllMade.snoc (St.all.on fun b o e no => ?_) ?_
    · obtain ⟨nb, e⟩ := hid_some e
      exact (hid_ne nb).trans (up6 _ _ _ nb (en _ _ (sm2 _ _ (sm1 _ _ e)) no))
    · have kx : ∀ b φ, H2 b = some (.ext φ) → hid fnd (upd (upd (upd H3 l (.lst S.ws)) t (.tup [.ref e1, .ref e2, .ref fn, .ref l])) fnd (.lst (ts.map V.ref ++ [V.ref t]))) b = some (.ext φ) := fun b φ e => by
        have nb : b ≠ fnd := ne_of e (sm2 _ _ (sm1 _ _ St.lst)) (fun z => by cases z)
        exact (hid_ne nb).trans (up6 _ _ _ nb (en _ _ e fun ps z => by cases z))
      have nfn : fn ≠ fnd := ne_of hfn f3 (fun z => by
        unfold LamO at z
        cases z)
      have nc : c ≠ fnd := ne_of hc f3 (fun z => by
        unfold CodeO at z
        cases z)
      exact ⟨e1, e2, fn, l, c, q, params, body, scope, (hid_ne ft.symm).trans ((upd_ne ft.symm).trans upd_same), E1.on kx, E2.on kx, (hid_ne nfn).trans (up6 _ _ _ nfn hfn), (hid_ne nc).trans (up6 _ _ _ nc hc),
        (hid_ne fl.symm).trans ((upd_ne fl.symm).trans ((upd_ne lt.symm).trans upd_same)), ok⟩
  · rw [List.length_append, St.len]
    rfl
section
variable {X : Cx} {T : List (Addr × Str)} {face C fI : Addr} {r : Row} {f g : Str} {p1 p2 p3 p4 p5 p6 p7 p8 p9 pa pb pc pd pe pf pg ph pi pj : Pos} {k1 : Nat}
theorem row1 (R : RowX X T) (Tc : ClsT X.K X.mg face C fI r) (hf : r.fs = [f]) (S : Shape1 f (initS r.i)) (B : Bind1 f (initS r.i)) (pl : Plain f) (hg : Gl X r.x) (hdb : (r.x == ("__debug__" : Str)) = false) (hline : (p2.endLine == pi.line) = true)
    (hq : swapsWith (.Call (.Attribute (.Name "found" p1) "append" p2) [.Tuple [.Call (.Name r.x p3) [.Name "x" p4] [] p5, .Call (.Name r.x p6) [] [⟨some f, .Name "x" p7, p8⟩] p9,
        .Lambda (lamPar pa) (.List [.Attribute (.Name "e" pb) f pc] pd) lamSc pe, .List [.Name "x" pf] pg] k1 ph] [] pi) none pj.line X.env = pure false) :
    PS X (.Expr (.Call (.Attribute (.Name "found" p1) "append" p2) [.Tuple [.Call (.Name r.x p3) [.Name "x" p4] [] p5, .Call (.Name r.x p6) [] [⟨some f, .Name "x" p7, p8⟩] p9,
        .Lambda (lamPar pa) (.List [.Attribute (.Name "e" pb) f pc] pd) lamSc pe, .List [.Name "x" pf] pg] k1 ph] [] pi) pj)
      (tRow X.prog X.w X.K X.mg X.base T fun x _ => ⟨C, [(f, x)], [x]⟩) := by
  obtain ⟨iC, tI, fd, F⟩ := Tc.init (by rw [hf]; exact List.cons_ne_nil _ _)
  obtain ⟨cd, Pt, TB, hcode, hmT, huT⟩ := R.tb
  have nf := Tc.no f (by rw [hf]; exact List.mem_cons_self)
  have F1 := ok_init1 (P := X.prog) (w := X.w) (mg := X.mg) (base := X.base) Tc.ox nf S pl F
  have px : ∀ {p : Pos}, PE X (.Name "x" p) (tVar 0) := fun {p} => pe_var (by rw [R.N] <;> rfl) R.vx
  have pfd : ∀ {p : Pos}, PE X (.Name "found" p) (tVar 3) := fun {p} => pe_var (by rw [R.N] <;> rfl) R.vf
  have A1 := pe_errP (p := p3) (pos := p5) Tc.ox iC tI F1 (R.hr.mono (by decide)) (binds1 B F) Tc.gC hg (pa_cons (px (p := p4)) pa_nil) hdb
  have A2 := pe_errK (p := p6) (pos := p9) Tc.ox iC tI F1 (R.hr.mono (by decide)) (kbinds1 B F) Tc.gC hg (pk_cons (nm := some f) (kpos := p8) (px (p := p7)) pk_nil) rfl rfl hdb
  have A3 := pe_lamV (X := X) (T := T) (params := lamPar pa) (body := .List [.Attribute (.Name "e" pb) f pc] pd) (scope := lamSc) (pos := pe) TB hcode hmT huT rfl rfl lamFree
  have A := ps_expr (pos := pj) (pe_bm (apos := p2) (cpos := pi) PySem.F.plainAttrs_list PySem.F.slot_list_append PySem.F.type_list_append mt_append (pfd (p := p1))
    (pa_cons (pe_tup (pos := ph) (x1 := k1) (pa_cons A1 (pa_cons A2 (pa_cons A3 (pa_cons (pe_lst (pos := pg) (pa_cons (px (p := pf)) pa_nil)) pa_nil))))) pa_nil) rfl rfl hline rfl rfl) hq
  refine ⟨fun pins s σ H D I h => A.run pins s σ H D I ?_⟩
  obtain ⟨x, y, z, H0, fnd, n, ts, Ss, rfl, hn, St, k⟩ := h
  refine ⟨.ref fnd, rfl, .inl ⟨rfl, _, SqL.of St.lst⟩, x, rfl, by show 1 ≤ 1000; decide, fun e1 n1 => ?_⟩
  refine ⟨e1, [x], rfl, rfl, upd_same, fun d1 H1 nd1 ne1 a1 b1 s1 => ⟨rfl, ?_⟩⟩
  refine ⟨x, rfl, rfl, fun e2 n2 => ?_⟩
  refine ⟨e2, [x], rfl, rfl, upd_same, fun d2 H2 nd2 ne2 a2 b2 s2 => ⟨rfl, ?_⟩⟩
  have sm1 : ∀ b o, H b = some o → H1 b = some o := fun b o e => s1 b o (ne_of_none e n1) ((upd_ne (ne_of_none e n1)).trans e)
  have sm2 : ∀ b o, H1 b = some o → H2 b = some o := fun b o e => s2 b o (ne_of_none e n2) ((upd_ne (ne_of_none e n2)).trans e)
  refine ⟨St.tabs.ext fun b o e => sm2 _ _ (sm1 _ _ e), fun fn c' H3 en nn tabs3 nf0 ap hfn hc => ?_⟩
  refine ⟨x, rfl, by show 1 ≤ sizeLine; decide, fun l nl => ⟨by show 4 ≤ sizeLine; decide, fun t nt => ?_⟩⟩
  have nd1' : H d1 = none := by
    rw [upd_ne ne1] at nd1
    exact nd1
  have nd2' : H1 d2 = none := by
    rw [upd_ne ne2] at nd2
    exact nd2
  exact row_end (e1 := e1) (e2 := e2) (fn := fn) (c := c') (l := l) (t := t) (H1 := H1) (H2 := H2) (H3 := H3) hn St sm1 sm2 en tabs3 nl nt (.inr ⟨d1, sm2 _ _ a1, sm2 _ _ b1⟩) (.inr ⟨d2, a2, b2⟩) hfn hc (lam_ok1 pl Tc.xf nf fun _ => rfl) (fun H' q => k t H' q)
theorem row2 (R : RowX X T) (Tc : ClsT X.K X.mg face C fI r) (hf : r.fs = [f, g]) (S : Shape2 f g (initS r.i)) (B : Bind2 f g (initS r.i)) (pl1 : Plain f) (pl2 : Plain g) (fg : (f == g) = false) (hg : Gl X r.x) (hdb : (r.x == ("__debug__" : Str)) = false) (hline : (p2.endLine == pi.line) = true)
    {u1 u2 u3 u4 u5 u6 : Pos}
    (hq : swapsWith (.Call (.Attribute (.Name "found" p1) "append" p2) [.Tuple [.Call (.Name r.x p3) [.Name "x" p4, .Name "y" u1] [] p5, .Call (.Name r.x p6) [] [⟨some g, .Name "y" p7, p8⟩, ⟨some f, .Name "x" u2, u3⟩] p9,
        .Lambda (lamPar pa) (.List [.Attribute (.Name "e" pb) f pc, .Attribute (.Name "e" u4) g u5] pd) lamSc pe, .List [.Name "x" pf, .Name "y" u6] pg] k1 ph] [] pi) none pj.line X.env = pure false) :
    PS X (.Expr (.Call (.Attribute (.Name "found" p1) "append" p2) [.Tuple [.Call (.Name r.x p3) [.Name "x" p4, .Name "y" u1] [] p5, .Call (.Name r.x p6) [] [⟨some g, .Name "y" p7, p8⟩, ⟨some f, .Name "x" u2, u3⟩] p9,
        .Lambda (lamPar pa) (.List [.Attribute (.Name "e" pb) f pc, .Attribute (.Name "e" u4) g u5] pd) lamSc pe, .List [.Name "x" pf, .Name "y" u6] pg] k1 ph] [] pi) pj)
      (tRow X.prog X.w X.K X.mg X.base T fun x y => ⟨C, [(g, y), (f, x)], [x, y]⟩) := by
  obtain ⟨iC, tI, fd, F⟩ := Tc.init (by rw [hf]; exact List.cons_ne_nil _ _)
  obtain ⟨cd, Pt, TB, hcode, hmT, huT⟩ := R.tb
  have nf := Tc.no f (by rw [hf]; exact List.mem_cons_self)
  have ng := Tc.no g (by rw [hf]; exact List.mem_cons_of_mem _ List.mem_cons_self)
  have F1 := ok_init2 (P := X.prog) (w := X.w) (mg := X.mg) (base := X.base) Tc.ox nf ng S pl1 pl2 F
  have px : ∀ {p : Pos}, PE X (.Name "x" p) (tVar 0) := fun {p} => pe_var (by rw [R.N] <;> rfl) R.vx
  have py : ∀ {p : Pos}, PE X (.Name "y" p) (tVar 1) := fun {p} => pe_var (by rw [R.N] <;> rfl) R.vy
  have pfd : ∀ {p : Pos}, PE X (.Name "found" p) (tVar 3) := fun {p} => pe_var (by rw [R.N] <;> rfl) R.vf
  have A1 := pe_errP (p := p3) (pos := p5) Tc.ox iC tI F1 (R.hr.mono (by decide)) (binds2 B F) Tc.gC hg (pa_cons (px (p := p4)) (pa_cons (py (p := u1)) pa_nil)) hdb
  have A2 := pe_errK (p := p6) (pos := p9) Tc.ox iC tI F1 (R.hr.mono (by decide)) (kbinds2 B F) Tc.gC hg (pk_cons (nm := some g) (kpos := p8) (py (p := p7)) (pk_cons (nm := some f) (kpos := u3) (px (p := u2)) pk_nil)) rfl rfl hdb
  have A3 := pe_lamV (X := X) (T := T) (params := lamPar pa) (body := .List [.Attribute (.Name "e" pb) f pc, .Attribute (.Name "e" u4) g u5] pd) (scope := lamSc) (pos := pe) TB hcode hmT huT rfl rfl lamFree
  have A := ps_expr (pos := pj) (pe_bm (apos := p2) (cpos := pi) PySem.F.plainAttrs_list PySem.F.slot_list_append PySem.F.type_list_append mt_append (pfd (p := p1))
    (pa_cons (pe_tup (pos := ph) (x1 := k1) (pa_cons A1 (pa_cons A2 (pa_cons A3 (pa_cons (pe_lst (pos := pg) (pa_cons (px (p := pf)) (pa_cons (py (p := u6)) pa_nil))) pa_nil))))) pa_nil) rfl rfl hline rfl rfl) hq
  refine ⟨fun pins s σ H D I h => A.run pins s σ H D I ?_⟩
  obtain ⟨x, y, z, H0, fnd, n, ts, Ss, rfl, hn, St, k⟩ := h
  refine ⟨.ref fnd, rfl, .inl ⟨rfl, _, SqL.of St.lst⟩, x, rfl, y, rfl, by show 2 ≤ 1000; decide, fun e1 n1 => ?_⟩
  refine ⟨e1, [x, y], rfl, rfl, upd_same, fun d1 H1 nd1 ne1 a1 b1 s1 => ⟨rfl, ?_⟩⟩
  refine ⟨y, rfl, x, rfl, rfl, fun e2 n2 => ?_⟩
  refine ⟨e2, [x, y], rfl, rfl, upd_same, fun d2 H2 nd2 ne2 a2 b2 s2 => ⟨rfl, ?_⟩⟩
  have sm1 : ∀ b o, H b = some o → H1 b = some o := fun b o e => s1 b o (ne_of_none e n1) ((upd_ne (ne_of_none e n1)).trans e)
  have sm2 : ∀ b o, H1 b = some o → H2 b = some o := fun b o e => s2 b o (ne_of_none e n2) ((upd_ne (ne_of_none e n2)).trans e)
  refine ⟨St.tabs.ext fun b o e => sm2 _ _ (sm1 _ _ e), fun fn c' H3 en nn tabs3 nf0 ap hfn hc => ?_⟩
  refine ⟨x, rfl, y, rfl, by show 2 ≤ sizeLine; decide, fun l nl => ⟨by show 4 ≤ sizeLine; decide, fun t nt => ?_⟩⟩
  exact row_end (S := ⟨C, [(g, y), (f, x)], [x, y]⟩) (e1 := e1) (e2 := e2) (fn := fn) (c := c') (l := l) (t := t) (H1 := H1) (H2 := H2) (H3 := H3) hn St sm1 sm2 en tabs3 nl nt (.inr ⟨d1, sm2 _ _ a1, sm2 _ _ b1⟩) (.inr ⟨d2, a2, b2⟩) hfn hc (lam_ok2 fg Tc.xf nf ng (fun _ => rfl) fun _ => rfl) (fun H' q => k t H' q)
theorem row0 (R : RowX X T) (Tc : ClsT X.K X.mg face C fI r) (hf : r.fs = []) (hg : Gl X r.x) (hdb : (r.x == ("__debug__" : Str)) = false) (hline : (p2.endLine == pi.line) = true)
    (hq : swapsWith (.Call (.Attribute (.Name "found" p1) "append" p2) [.Tuple [.Call (.Name r.x p3) [] [] p5, .Call (.Name r.x p6) [] [] p9, .Lambda (lamPar pa) (.List [] pd) lamSc pe, .List [] pg] k1 ph] [] pi) none pj.line X.env = pure false) :
    PS X (.Expr (.Call (.Attribute (.Name "found" p1) "append" p2) [.Tuple [.Call (.Name r.x p3) [] [] p5, .Call (.Name r.x p6) [] [] p9, .Lambda (lamPar pa) (.List [] pd) lamSc pe, .List [] pg] k1 ph] [] pi) pj)
      (tRow X.prog X.w X.K X.mg X.base T fun _ _ => ⟨C, [], []⟩) := by
  obtain ⟨cd, Pt, TB, hcode, hmT, huT⟩ := R.tb
  have pfd : ∀ {p : Pos}, PE X (.Name "found" p) (tVar 3) := fun {p} => pe_var (by rw [R.N] <;> rfl) R.vf
  have A1 := pe_err0 (p := p3) (pos := p5) PySem.F.excBase_ValueError (Tc.bare hf) Tc.ox.kC Tc.gC hg hdb
  have A2 := pe_err0 (p := p6) (pos := p9) PySem.F.excBase_ValueError (Tc.bare hf) Tc.ox.kC Tc.gC hg hdb
  have A3 := pe_lamV (X := X) (T := T) (params := lamPar pa) (body := .List [] pd) (scope := lamSc) (pos := pe) TB hcode hmT huT rfl rfl lamFree
  have A := ps_expr (pos := pj) (pe_bm (apos := p2) (cpos := pi) PySem.F.plainAttrs_list PySem.F.slot_list_append PySem.F.type_list_append mt_append (pfd (p := p1))
    (pa_cons (pe_tup (pos := ph) (x1 := k1) (pa_cons A1 (pa_cons A2 (pa_cons A3 (pa_cons (pe_lst (pos := pg) pa_nil) pa_nil))))) pa_nil) rfl rfl hline rfl rfl) hq
  refine ⟨fun pins s σ H D I h => A.run pins s σ H D I ?_⟩
  obtain ⟨x, y, z, H0, fnd, n, ts, Ss, rfl, hn, St, k⟩ := h
  refine ⟨.ref fnd, rfl, .inl ⟨rfl, _, SqL.of St.lst⟩, fun e1 n1 => ?_⟩
  intro e2 n2
  have sm1 : ∀ b o, H b = some o → upd H e1 (ExO (.ref C) e1) b = some o := fun b o e => (upd_ne (ne_of_none e n1)).trans e
  have sm2 : ∀ b o, upd H e1 (ExO (.ref C) e1) b = some o → upd (upd H e1 (ExO (.ref C) e1)) e2 (ExO (.ref C) e2) b = some o := fun b o e => (upd_ne (ne_of_none e n2)).trans e
  refine ⟨St.tabs.ext fun b o e => sm2 _ _ (sm1 _ _ e), fun fn c' H3 en nn tabs3 nf0 ap hfn hc => ?_⟩
  refine ⟨Nat.zero_le _, fun l nl => ⟨by show 4 ≤ sizeLine; decide, fun t nt => ?_⟩⟩
  exact row_end (S := ⟨C, [], []⟩) (e1 := e1) (e2 := e2) (fn := fn) (c := c') (l := l) (t := t) hn St sm1 sm2 en tabs3 nl nt (.inl ⟨rfl, sm2 _ _ upd_same⟩) (.inl ⟨rfl, upd_same⟩) hfn hc lam_ok0 (fun H' q => k t H' q)
end
end K0
end T_K0Row
section T_K0Made
set_option Elab.async false
set_option linter.all false
set_option maxRecDepth 100000
set_option maxHeartbeats 4000000
namespace K0
open PySem PySem.Spec PyProof.Rows L2 LamX NdefX LamV ErrX
theorem sh0 : Shape1 "thing" (initS 2) := ⟨⟨rfl, rfl, rfl, by decide +kernel, rfl, by decide +kernel, by decide +kernel⟩, rfl, rfl, _, _, _, _, rfl, fun _ => rfl⟩
theorem bd0 : Bind1 "thing" (initS 2) := fun _ _ _ _ _ _ _ _ _ => ⟨rfl, rfl⟩
theorem sh1 : Shape1 "thing" (initS 3) := ⟨⟨rfl, rfl, rfl, by decide +kernel, rfl, by decide +kernel, by decide +kernel⟩, rfl, rfl, _, _, _, _, rfl, fun _ => rfl⟩
theorem bd1 : Bind1 "thing" (initS 3) := fun _ _ _ _ _ _ _ _ _ => ⟨rfl, rfl⟩
theorem sh2 : Shape1 "thing" (initS 4) := ⟨⟨rfl, rfl, rfl, by decide +kernel, rfl, by decide +kernel, by decide +kernel⟩, rfl, rfl, _, _, _, _, rfl, fun _ => rfl⟩
theorem bd2 : Bind1 "thing" (initS 4) := fun _ _ _ _ _ _ _ _ _ => ⟨rfl, rfl⟩
theorem sh3 : Shape1 "index" (initS 5) := ⟨⟨rfl, rfl, rfl, by decide +kernel, rfl, by decide +kernel, by decide +kernel⟩, rfl, rfl, _, _, _, _, rfl, fun _ => rfl⟩
theorem bd3 : Bind1 "index" (initS 5) := fun _ _ _ _ _ _ _ _ _ => ⟨rfl, rfl⟩
theorem sh4 : Shape1 "thing" (initS 6) := ⟨⟨rfl, rfl, rfl, by decide +kernel, rfl, by decide +kernel, by decide +kernel⟩, rfl, rfl, _, _, _, _, rfl, fun _ => rfl⟩
theorem bd4 : Bind1 "thing" (initS 6) := fun _ _ _ _ _ _ _ _ _ => ⟨rfl, rfl⟩
theorem sh5 : Shape1 "index" (initS 7) := ⟨⟨rfl, rfl, rfl, by decide +kernel, rfl, by decide +kernel, by decide +kernel⟩, rfl, rfl, _, _, _, _, rfl, fun _ => rfl⟩
theorem bd5 : Bind1 "index" (initS 7) := fun _ _ _ _ _ _ _ _ _ => ⟨rfl, rfl⟩
theorem sh6 : Shape1 "thing" (initS 8) := ⟨⟨rfl, rfl, rfl, by decide +kernel, rfl, by decide +kernel, by decide +kernel⟩, rfl, rfl, _, _, _, _, rfl, fun _ => rfl⟩
theorem bd6 : Bind1 "thing" (initS 8) := fun _ _ _ _ _ _ _ _ _ => ⟨rfl, rfl⟩
theorem sh7 : Shape1 "index" (initS 9) := ⟨⟨rfl, rfl, rfl, by decide +kernel, rfl, by decide +kernel, by decide +kernel⟩, rfl, rfl, _, _, _, _, rfl, fun _ => rfl⟩
theorem bd7 : Bind1 "index" (initS 9) := fun _ _ _ _ _ _ _ _ _ => ⟨rfl, rfl⟩
theorem sh8 : Shape1 "thing" (initS 10) := ⟨⟨rfl, rfl, rfl, by decide +kernel, rfl, by decide +kernel, by decide +kernel⟩, rfl, rfl, _, _, _, _, rfl, fun _ => rfl⟩
theorem bd8 : Bind1 "thing" (initS 10) := fun _ _ _ _ _ _ _ _ _ => ⟨rfl, rfl⟩
theorem sh9 : Shape1 "index" (initS 11) := ⟨⟨rfl, rfl, rfl, by decide +kernel, rfl, by decide +kernel, by decide +kernel⟩, rfl, rfl, _, _, _, _, rfl, fun _ => rfl⟩
theorem bd9 : Bind1 "index" (initS 11) := fun _ _ _ _ _ _ _ _ _ => ⟨rfl, rfl⟩
theorem sh10 : Shape1 "index" (initS 12) := ⟨⟨rfl, rfl, rfl, by decide +kernel, rfl, by decide +kernel, by decide +kernel⟩, rfl, rfl, _, _, _, _, rfl, fun _ => rfl⟩
theorem bd10 : Bind1 "index" (initS 12) := fun _ _ _ _ _ _ _ _ _ => ⟨rfl, rfl⟩
theorem sh11 : Shape1 "thing" (initS 13) := ⟨⟨rfl, rfl, rfl, by decide +kernel, rfl, by decide +kernel, by decide +kernel⟩, rfl, rfl, _, _, _, _, rfl, fun _ => rfl⟩
theorem bd11 : Bind1 "thing" (initS 13) := fun _ _ _ _ _ _ _ _ _ => ⟨rfl, rfl⟩
theorem sh12 : Shape1 "thing" (initS 14) := ⟨⟨rfl, rfl, rfl, by decide +kernel, rfl, by decide +kernel, by decide +kernel⟩, rfl, rfl, _, _, _, _, rfl, fun _ => rfl⟩
theorem bd12 : Bind1 "thing" (initS 14) := fun _ _ _ _ _ _ _ _ _ => ⟨rfl, rfl⟩
theorem sh13 : Shape1 "thing" (initS 15) := ⟨⟨rfl, rfl, rfl, by decide +kernel, rfl, by decide +kernel, by decide +kernel⟩, rfl, rfl, _, _, _, _, rfl, fun _ => rfl⟩
theorem bd13 : Bind1 "thing" (initS 15) := fun _ _ _ _ _ _ _ _ _ => ⟨rfl, rfl⟩
theorem sh14 : Shape1 "thing" (initS 16) := ⟨⟨rfl, rfl, rfl, by decide +kernel, rfl, by decide +kernel, by decide +kernel⟩, rfl, rfl, _, _, _, _, rfl, fun _ => rfl⟩
theorem bd14 : Bind1 "thing" (initS 16) := fun _ _ _ _ _ _ _ _ _ => ⟨rfl, rfl⟩
theorem sh15 : Shape1 "thing" (initS 17) := ⟨⟨rfl, rfl, rfl, by decide +kernel, rfl, by decide +kernel, by decide +kernel⟩, rfl, rfl, _, _, _, _, rfl, fun _ => rfl⟩
theorem bd15 : Bind1 "thing" (initS 17) := fun _ _ _ _ _ _ _ _ _ => ⟨rfl, rfl⟩
theorem sh16 : Shape1 "index" (initS 18) := ⟨⟨rfl, rfl, rfl, by decide +kernel, rfl, by decide +kernel, by decide +kernel⟩, rfl, rfl, _, _, _, _, rfl, fun _ => rfl⟩
theorem bd16 : Bind1 "index" (initS 18) := fun _ _ _ _ _ _ _ _ _ => ⟨rfl, rfl⟩
theorem sh17 : Shape1 "thing" (initS 19) := ⟨⟨rfl, rfl, rfl, by decide +kernel, rfl, by decide +kernel, by decide +kernel⟩, rfl, rfl, _, _, _, _, rfl, fun _ => rfl⟩
theorem bd17 : Bind1 "thing" (initS 19) := fun _ _ _ _ _ _ _ _ _ => ⟨rfl, rfl⟩
theorem sh18 : Shape1 "thing" (initS 20) := ⟨⟨rfl, rfl, rfl, by decide +kernel, rfl, by decide +kernel, by decide +kernel⟩, rfl, rfl, _, _, _, _, rfl, fun _ => rfl⟩
theorem bd18 : Bind1 "thing" (initS 20) := fun _ _ _ _ _ _ _ _ _ => ⟨rfl, rfl⟩
theorem sh19 : Shape1 "many" (initS 21) := ⟨⟨rfl, rfl, rfl, by decide +kernel, rfl, by decide +kernel, by decide +kernel⟩, rfl, rfl, _, _, _, _, rfl, fun _ => rfl⟩
theorem bd19 : Bind1 "many" (initS 21) := fun _ _ _ _ _ _ _ _ _ => ⟨rfl, rfl⟩
theorem sh20 : Shape1 "thing" (initS 22) := ⟨⟨rfl, rfl, rfl, by decide +kernel, rfl, by decide +kernel, by decide +kernel⟩, rfl, rfl, _, _, _, _, rfl, fun _ => rfl⟩
theorem bd20 : Bind1 "thing" (initS 22) := fun _ _ _ _ _ _ _ _ _ => ⟨rfl, rfl⟩
theorem sh21 : Shape1 "thing" (initS 23) := ⟨⟨rfl, rfl, rfl, by decide +kernel, rfl, by decide +kernel, by decide +kernel⟩, rfl, rfl, _, _, _, _, rfl, fun _ => rfl⟩
theorem bd21 : Bind1 "thing" (initS 23) := fun _ _ _ _ _ _ _ _ _ => ⟨rfl, rfl⟩
theorem sh22 : Shape1 "thing" (initS 24) := ⟨⟨rfl, rfl, rfl, by decide +kernel, rfl, by decide +kernel, by decide +kernel⟩, rfl, rfl, _, _, _, _, rfl, fun _ => rfl⟩
theorem bd22 : Bind1 "thing" (initS 24) := fun _ _ _ _ _ _ _ _ _ => ⟨rfl, rfl⟩
theorem sh23 : Shape1 "thing" (initS 25) := ⟨⟨rfl, rfl, rfl, by decide +kernel, rfl, by decide +kernel, by decide +kernel⟩, rfl, rfl, _, _, _, _, rfl, fun _ => rfl⟩
theorem bd23 : Bind1 "thing" (initS 25) := fun _ _ _ _ _ _ _ _ _ => ⟨rfl, rfl⟩
theorem sh24 : Shape1 "index" (initS 26) := ⟨⟨rfl, rfl, rfl, by decide +kernel, rfl, by decide +kernel, by decide +kernel⟩, rfl, rfl, _, _, _, _, rfl, fun _ => rfl⟩
theorem bd24 : Bind1 "index" (initS 26) := fun _ _ _ _ _ _ _ _ _ => ⟨rfl, rfl⟩
theorem sh25 : Shape1 "index" (initS 27) := ⟨⟨rfl, rfl, rfl, by decide +kernel, rfl, by decide +kernel, by decide +kernel⟩, rfl, rfl, _, _, _, _, rfl, fun _ => rfl⟩
theorem bd25 : Bind1 "index" (initS 27) := fun _ _ _ _ _ _ _ _ _ => ⟨rfl, rfl⟩
theorem sh26 : Shape1 "thing" (initS 28) := ⟨⟨rfl, rfl, rfl, by decide +kernel, rfl, by decide +kernel, by decide +kernel⟩, rfl, rfl, _, _, _, _, rfl, fun _ => rfl⟩
theorem bd26 : Bind1 "thing" (initS 28) := fun _ _ _ _ _ _ _ _ _ => ⟨rfl, rfl⟩
theorem sh27 : Shape1 "thing" (initS 29) := ⟨⟨rfl, rfl, rfl, by decide +kernel, rfl, by decide +kernel, by decide +kernel⟩, rfl, rfl, _, _, _, _, rfl, fun _ => rfl⟩
theorem bd27 : Bind1 "thing" (initS 29) := fun _ _ _ _ _ _ _ _ _ => ⟨rfl, rfl⟩
theorem sh28 : Shape1 "thing" (initS 30) := ⟨⟨rfl, rfl, rfl, by decide +kernel, rfl, by decide +kernel, by decide +kernel⟩, rfl, rfl, _, _, _, _, rfl, fun _ => rfl⟩
theorem bd28 : Bind1 "thing" (initS 30) := fun _ _ _ _ _ _ _ _ _ => ⟨rfl, rfl⟩
theorem sh29 : Shape1 "thing" (initS 31) := ⟨⟨rfl, rfl, rfl, by decide +kernel, rfl, by decide +kernel, by decide +kernel⟩, rfl, rfl, _, _, _, _, rfl, fun _ => rfl⟩
theorem bd29 : Bind1 "thing" (initS 31) := fun _ _ _ _ _ _ _ _ _ => ⟨rfl, rfl⟩
theorem sh30 : Shape1 "index" (initS 32) := ⟨⟨rfl, rfl, rfl, by decide +kernel, rfl, by decide +kernel, by decide +kernel⟩, rfl, rfl, _, _, _, _, rfl, fun _ => rfl⟩
theorem bd30 : Bind1 "index" (initS 32) := fun _ _ _ _ _ _ _ _ _ => ⟨rfl, rfl⟩
theorem sh31 : Shape1 "index" (initS 33) := ⟨⟨rfl, rfl, rfl, by decide +kernel, rfl, by decide +kernel, by decide +kernel⟩, rfl, rfl, _, _, _, _, rfl, fun _ => rfl⟩
theorem bd31 : Bind1 "index" (initS 33) := fun _ _ _ _ _ _ _ _ _ => ⟨rfl, rfl⟩
theorem sh32 : Shape1 "thing" (initS 34) := ⟨⟨rfl, rfl, rfl, by decide +kernel, rfl, by decide +kernel, by decide +kernel⟩, rfl, rfl, _, _, _, _, rfl, fun _ => rfl⟩
theorem bd32 : Bind1 "thing" (initS 34) := fun _ _ _ _ _ _ _ _ _ => ⟨rfl, rfl⟩
theorem sh33 : Shape1 "thing" (initS 35) := ⟨⟨rfl, rfl, rfl, by decide +kernel, rfl, by decide +kernel, by decide +kernel⟩, rfl, rfl, _, _, _, _, rfl, fun _ => rfl⟩
theorem bd33 : Bind1 "thing" (initS 35) := fun _ _ _ _ _ _ _ _ _ => ⟨rfl, rfl⟩
theorem sh34 : Shape1 "thing" (initS 36) := ⟨⟨rfl, rfl, rfl, by decide +kernel, rfl, by decide +kernel, by decide +kernel⟩, rfl, rfl, _, _, _, _, rfl, fun _ => rfl⟩
theorem bd34 : Bind1 "thing" (initS 36) := fun _ _ _ _ _ _ _ _ _ => ⟨rfl, rfl⟩
theorem sh35 : Shape1 "index" (initS 37) := ⟨⟨rfl, rfl, rfl, by decide +kernel, rfl, by decide +kernel, by decide +kernel⟩, rfl, rfl, _, _, _, _, rfl, fun _ => rfl⟩
theorem bd35 : Bind1 "index" (initS 37) := fun _ _ _ _ _ _ _ _ _ => ⟨rfl, rfl⟩
theorem sh36 : Shape1 "thing" (initS 38) := ⟨⟨rfl, rfl, rfl, by decide +kernel, rfl, by decide +kernel, by decide +kernel⟩, rfl, rfl, _, _, _, _, rfl, fun _ => rfl⟩
theorem bd36 : Bind1 "thing" (initS 38) := fun _ _ _ _ _ _ _ _ _ => ⟨rfl, rfl⟩
theorem sh37 : Shape1 "index" (initS 39) := ⟨⟨rfl, rfl, rfl, by decide +kernel, rfl, by decide +kernel, by decide +kernel⟩, rfl, rfl, _, _, _, _, rfl, fun _ => rfl⟩
theorem bd37 : Bind1 "index" (initS 39) := fun _ _ _ _ _ _ _ _ _ => ⟨rfl, rfl⟩
theorem sh38 : Shape1 "line" (initS 40) := ⟨⟨rfl, rfl, rfl, by decide +kernel, rfl, by decide +kernel, by decide +kernel⟩, rfl, rfl, _, _, _, _, rfl, fun _ => rfl⟩
theorem bd38 : Bind1 "line" (initS 40) := fun _ _ _ _ _ _ _ _ _ => ⟨rfl, rfl⟩
theorem sh39 : Shape1 "index" (initS 41) := ⟨⟨rfl, rfl, rfl, by decide +kernel, rfl, by decide +kernel, by decide +kernel⟩, rfl, rfl, _, _, _, _, rfl, fun _ => rfl⟩
theorem bd39 : Bind1 "index" (initS 41) := fun _ _ _ _ _ _ _ _ _ => ⟨rfl, rfl⟩
theorem sh40 : Shape1 "index" (initS 42) := ⟨⟨rfl, rfl, rfl, by decide +kernel, rfl, by decide +kernel, by decide +kernel⟩, rfl, rfl, _, _, _, _, rfl, fun _ => rfl⟩
theorem bd40 : Bind1 "index" (initS 42) := fun _ _ _ _ _ _ _ _ _ => ⟨rfl, rfl⟩
theorem sh42 : Shape1 "name" (initS 44) := ⟨⟨rfl, rfl, rfl, by decide +kernel, rfl, by decide +kernel, by decide +kernel⟩, rfl, rfl, _, _, _, _, rfl, fun _ => rfl⟩
theorem bd42 : Bind1 "name" (initS 44) := fun _ _ _ _ _ _ _ _ _ => ⟨rfl, rfl⟩
theorem sh43 : Shape1 "name" (initS 45) := ⟨⟨rfl, rfl, rfl, by decide +kernel, rfl, by decide +kernel, by decide +kernel⟩, rfl, rfl, _, _, _, _, rfl, fun _ => rfl⟩
theorem bd43 : Bind1 "name" (initS 45) := fun _ _ _ _ _ _ _ _ _ => ⟨rfl, rfl⟩
theorem sh44 : Shape1 "room" (initS 46) := ⟨⟨rfl, rfl, rfl, by decide +kernel, rfl, by decide +kernel, by decide +kernel⟩, rfl, rfl, _, _, _, _, rfl, fun _ => rfl⟩
theorem bd44 : Bind1 "room" (initS 46) := fun _ _ _ _ _ _ _ _ _ => ⟨rfl, rfl⟩
theorem sh46 : Shape1 "question" (initS 48) := ⟨⟨rfl, rfl, rfl, by decide +kernel, rfl, by decide +kernel, by decide +kernel⟩, rfl, rfl, _, _, _, _, rfl, fun _ => rfl⟩
theorem bd46 : Bind1 "question" (initS 48) := fun _ _ _ _ _ _ _ _ _ => ⟨rfl, rfl⟩
theorem sh47 : Shape2 "one" "other" (initS 49) := ⟨⟨rfl, rfl, rfl, by decide +kernel, rfl, by decide +kernel, by decide +kernel⟩, rfl, rfl, rfl, _, _, _, _, _, _, _, _, rfl, fun _ => rfl, fun _ => rfl⟩
theorem bd47 : Bind2 "one" "other" (initS 49) := fun _ _ _ _ _ _ _ _ _ _ => ⟨rfl, rfl⟩
theorem sh49 : Shape1 "room" (initS 51) := ⟨⟨rfl, rfl, rfl, by decide +kernel, rfl, by decide +kernel, by decide +kernel⟩, rfl, rfl, _, _, _, _, rfl, fun _ => rfl⟩
theorem bd49 : Bind1 "room" (initS 51) := fun _ _ _ _ _ _ _ _ _ => ⟨rfl, rfl⟩
theorem sh50 : Shape1 "question" (initS 52) := ⟨⟨rfl, rfl, rfl, by decide +kernel, rfl, by decide +kernel, by decide +kernel⟩, rfl, rfl, _, _, _, _, rfl, fun _ => rfl⟩
theorem bd50 : Bind1 "question" (initS 52) := fun _ _ _ _ _ _ _ _ _ => ⟨rfl, rfl⟩
theorem sh52 : Shape1 "thing" (initS 54) := ⟨⟨rfl, rfl, rfl, by decide +kernel, rfl, by decide +kernel, by decide +kernel⟩, rfl, rfl, _, _, _, _, rfl, fun _ => rfl⟩
theorem bd52 : Bind1 "thing" (initS 54) := fun _ _ _ _ _ _ _ _ _ => ⟨rfl, rfl⟩
theorem sh53 : Shape2 "one" "other" (initS 55) := ⟨⟨rfl, rfl, rfl, by decide +kernel, rfl, by decide +kernel, by decide +kernel⟩, rfl, rfl, rfl, _, _, _, _, _, _, _, _, rfl, fun _ => rfl, fun _ => rfl⟩
theorem bd53 : Bind2 "one" "other" (initS 55) := fun _ _ _ _ _ _ _ _ _ _ => ⟨rfl, rfl⟩
theorem sh54 : Shape1 "thing" (initS 56) := ⟨⟨rfl, rfl, rfl, by decide +kernel, rfl, by decide +kernel, by decide +kernel⟩, rfl, rfl, _, _, _, _, rfl, fun _ => rfl⟩
theorem bd54 : Bind1 "thing" (initS 56) := fun _ _ _ _ _ _ _ _ _ => ⟨rfl, rfl⟩
theorem sh55 : Shape1 "thing" (initS 57) := ⟨⟨rfl, rfl, rfl, by decide +kernel, rfl, by decide +kernel, by decide +kernel⟩, rfl, rfl, _, _, _, _, rfl, fun _ => rfl⟩
theorem bd55 : Bind1 "thing" (initS 57) := fun _ _ _ _ _ _ _ _ _ => ⟨rfl, rfl⟩
theorem sh58 : Shape1 "thing" (initS 60) := ⟨⟨rfl, rfl, rfl, by decide +kernel, rfl, by decide +kernel, by decide +kernel⟩, rfl, rfl, _, _, _, _, rfl, fun _ => rfl⟩
theorem bd58 : Bind1 "thing" (initS 60) := fun _ _ _ _ _ _ _ _ _ => ⟨rfl, rfl⟩
theorem sh59 : Shape1 "why" (initS 61) := ⟨⟨rfl, rfl, rfl, by decide +kernel, rfl, by decide +kernel, by decide +kernel⟩, rfl, rfl, _, _, _, _, rfl, fun _ => rfl⟩
theorem bd59 : Bind1 "why" (initS 61) := fun _ _ _ _ _ _ _ _ _ => ⟨rfl, rfl⟩
theorem sh60 : Shape1 "people" (initS 62) := ⟨⟨rfl, rfl, rfl, by decide +kernel, rfl, by decide +kernel, by decide +kernel⟩, rfl, rfl, _, _, _, _, rfl, fun _ => rfl⟩
theorem bd60 : Bind1 "people" (initS 62) := fun _ _ _ _ _ _ _ _ _ => ⟨rfl, rfl⟩
theorem sh62 : Shape1 "room" (initS 64) := ⟨⟨rfl, rfl, rfl, by decide +kernel, rfl, by decide +kernel, by decide +kernel⟩, rfl, rfl, _, _, _, _, rfl, fun _ => rfl⟩
theorem bd62 : Bind1 "room" (initS 64) := fun _ _ _ _ _ _ _ _ _ => ⟨rfl, rfl⟩
theorem sh63 : Shape1 "room" (initS 65) := ⟨⟨rfl, rfl, rfl, by decide +kernel, rfl, by decide +kernel, by decide +kernel⟩, rfl, rfl, _, _, _, _, rfl, fun _ => rfl⟩
theorem bd63 : Bind1 "room" (initS 65) := fun _ _ _ _ _ _ _ _ _ => ⟨rfl, rfl⟩
theorem sh64 : Shape1 "thing" (initS 66) := ⟨⟨rfl, rfl, rfl, by decide +kernel, rfl, by decide +kernel, by decide +kernel⟩, rfl, rfl, _, _, _, _, rfl, fun _ => rfl⟩
theorem bd64 : Bind1 "thing" (initS 66) := fun _ _ _ _ _ _ _ _ _ => ⟨rfl, rfl⟩
theorem sh65 : Shape1 "name" (initS 67) := ⟨⟨rfl, rfl, rfl, by decide +kernel, rfl, by decide +kernel, by decide +kernel⟩, rfl, rfl, _, _, _, _, rfl, fun _ => rfl⟩
theorem bd65 : Bind1 "name" (initS 67) := fun _ _ _ _ _ _ _ _ _ => ⟨rfl, rfl⟩
theorem sh66 : Shape1 "thing" (initS 68) := ⟨⟨rfl, rfl, rfl, by decide +kernel, rfl, by decide +kernel, by decide +kernel⟩, rfl, rfl, _, _, _, _, rfl, fun _ => rfl⟩
theorem bd66 : Bind1 "thing" (initS 68) := fun _ _ _ _ _ _ _ _ _ => ⟨rfl, rfl⟩
theorem sh68 : Shape1 "thing" (initS 70) := ⟨⟨rfl, rfl, rfl, by decide +kernel, rfl, by decide +kernel, by decide +kernel⟩, rfl, rfl, _, _, _, _, rfl, fun _ => rfl⟩
theorem bd68 : Bind1 "thing" (initS 70) := fun _ _ _ _ _ _ _ _ _ => ⟨rfl, rfl⟩
theorem sh69 : Shape1 "room" (initS 71) := ⟨⟨rfl, rfl, rfl, by decide +kernel, rfl, by decide +kernel, by decide +kernel⟩, rfl, rfl, _, _, _, _, rfl, fun _ => rfl⟩
theorem bd69 : Bind1 "room" (initS 71) := fun _ _ _ _ _ _ _ _ _ => ⟨rfl, rfl⟩
theorem sh70 : Shape1 "person" (initS 72) := ⟨⟨rfl, rfl, rfl, by decide +kernel, rfl, by decide +kernel, by decide +kernel⟩, rfl, rfl, _, _, _, _, rfl, fun _ => rfl⟩
theorem bd70 : Bind1 "person" (initS 72) := fun _ _ _ _ _ _ _ _ _ => ⟨rfl, rfl⟩
theorem sh71 : Shape1 "question" (initS 73) := ⟨⟨rfl, rfl, rfl, by decide +kernel, rfl, by decide +kernel, by decide +kernel⟩, rfl, rfl, _, _, _, _, rfl, fun _ => rfl⟩
theorem bd71 : Bind1 "question" (initS 73) := fun _ _ _ _ _ _ _ _ _ => ⟨rfl, rfl⟩
theorem sh72 : Shape1 "room" (initS 74) := ⟨⟨rfl, rfl, rfl, by decide +kernel, rfl, by decide +kernel, by decide +kernel⟩, rfl, rfl, _, _, _, _, rfl, fun _ => rfl⟩
theorem bd72 : Bind1 "room" (initS 74) := fun _ _ _ _ _ _ _ _ _ => ⟨rfl, rfl⟩
theorem sh73 : Shape1 "person" (initS 75) := ⟨⟨rfl, rfl, rfl, by decide +kernel, rfl, by decide +kernel, by decide +kernel⟩, rfl, rfl, _, _, _, _, rfl, fun _ => rfl⟩
theorem bd73 : Bind1 "person" (initS 75) := fun _ _ _ _ _ _ _ _ _ => ⟨rfl, rfl⟩
theorem sh74 : Shape1 "name" (initS 76) := ⟨⟨rfl, rfl, rfl, by decide +kernel, rfl, by decide +kernel, by decide +kernel⟩, rfl, rfl, _, _, _, _, rfl, fun _ => rfl⟩
theorem bd74 : Bind1 "name" (initS 76) := fun _ _ _ _ _ _ _ _ _ => ⟨rfl, rfl⟩
theorem sh75 : Shape1 "room" (initS 77) := ⟨⟨rfl, rfl, rfl, by decide +kernel, rfl, by decide +kernel, by decide +kernel⟩, rfl, rfl, _, _, _, _, rfl, fun _ => rfl⟩
theorem bd75 : Bind1 "room" (initS 77) := fun _ _ _ _ _ _ _ _ _ => ⟨rfl, rfl⟩
theorem sh76 : Shape1 "room" (initS 78) := ⟨⟨rfl, rfl, rfl, by decide +kernel, rfl, by decide +kernel, by decide +kernel⟩, rfl, rfl, _, _, _, _, rfl, fun _ => rfl⟩
theorem bd76 : Bind1 "room" (initS 78) := fun _ _ _ _ _ _ _ _ _ => ⟨rfl, rfl⟩
theorem sh77 : Shape1 "person" (initS 79) := ⟨⟨rfl, rfl, rfl, by decide +kernel, rfl, by decide +kernel, by decide +kernel⟩, rfl, rfl, _, _, _, _, rfl, fun _ => rfl⟩
theorem bd77 : Bind1 "person" (initS 79) := fun _ _ _ _ _ _ _ _ _ => ⟨rfl, rfl⟩
theorem sh78 : Shape1 "room" (initS 80) := ⟨⟨rfl, rfl, rfl, by decide +kernel, rfl, by decide +kernel, by decide +kernel⟩, rfl, rfl, _, _, _, _, rfl, fun _ => rfl⟩
theorem bd78 : Bind1 "room" (initS 80) := fun _ _ _ _ _ _ _ _ _ => ⟨rfl, rfl⟩
theorem sh81 : Shape1 "room" (initS 83) := ⟨⟨rfl, rfl, rfl, by decide +kernel, rfl, by decide +kernel, by decide +kernel⟩, rfl, rfl, _, _, _, _, rfl, fun _ => rfl⟩
theorem bd81 : Bind1 "room" (initS 83) := fun _ _ _ _ _ _ _ _ _ => ⟨rfl, rfl⟩
theorem sh82 : Shape1 "question" (initS 84) := ⟨⟨rfl, rfl, rfl, by decide +kernel, rfl, by decide +kernel, by decide +kernel⟩, rfl, rfl, _, _, _, _, rfl, fun _ => rfl⟩
theorem bd82 : Bind1 "question" (initS 84) := fun _ _ _ _ _ _ _ _ _ => ⟨rfl, rfl⟩
/-- the classes, told by their places -/
def Classes (K : PySem.W.Frag) (mg : Str → Option Value) (face : Addr) (Ca Fa : Nat → Addr) : Prop := ∀ (j : Nat) (r : Row), rows[j]? = some r → ClsT K mg face (Ca j) (Fa j) r
/-- what is due of the j-th class -/
def specOf (Ca : Nat → Addr) (j : Nat) (x y : V) : Spec1 := match rows[j]? with
  | some ⟨_, _, [f]⟩ => ⟨Ca j, [(f, x)], [x]⟩
  | some ⟨_, _, [f, g]⟩ => ⟨Ca j, [(g, y), (f, x)], [x, y]⟩
  | _ => ⟨Ca j, [], []⟩
def lamQ (x : Str) : Str := (x ++ ".<locals>.") ++ "<lambda>"
def spMade (P : Program) (w : World) (K : PySem.W.Frag) (mg : Str → Option Value) (base : Heap) (T : List (Addr × Str)) (Ca : Nat → Addr) (lo n : Nat) : Sp := fun vs H Q _ => ∃ x y z : V, vs = [x, y, z] ∧ Tabs T H ∧
  ∀ (fnd : Addr) (ts : List Addr) (H' : Hp), ExtN H H' → Tabs T H' → H fnd = none → H' fnd = some (.lst (ts.map V.ref)) → AllMade P w K mg base H' ts ((List.range' lo n).map fun j => specOf Ca j x y) → Q (.ref fnd) H'
section
variable {P : Program} {w : World} {K : PySem.W.Frag} {mg : Str → Option Value} {base : Heap} {T : List (Addr × Str)} {face : Addr} {Ca Fa : Nat → Addr} {f cd Pt : Addr} {fd : FuncData}
abbrev sMade_a : Stmt := top 89
theorem scMade_a : FnScope ["x", "y", "z", "found"] ["x", "y", "z"] (defScope sMade_a) := ⟨rfl, rfl, rfl, by decide +kernel, rfl, by decide +kernel, by decide +kernel⟩
theorem ok_made_a (F : FunD K "_law_made_a" "_law_made_a" (defArgs sMade_a) (defBody sMade_a) (defScope sMade_a) [] [] f fd) (hcode : fd.code = .ref cd) (TB : TabB base mg cd Pt) (hm : (Pt, lamQ "_law_made_a") ∈ T) (hu : ∀ p ∈ T, p.1 = Pt → p.2 = lamQ "_law_made_a") (cT : Classes K mg face Ca Fa) :
    FnOk P w K mg base CX0 4 f fd ["x", "y", "z"] (spMade P w K mg base T Ca 0 18) := by
  obtain ⟨oc, od, dV, kV, doc, pm, an, cdv, ct, osl, rfl, lk, hcd, _, _⟩ := F.ex
  have ec : cdv = .ref cd := hcode
  subst ec
  refine fn_of lk hcd scMade_a (fun vs H Q E h => ?_) (fun A outer s H vs Q E hr h => ?_)
  · obtain ⟨x, y, z, rfl, _⟩ := h
    rfl
  obtain ⟨x, y, z, rfl, hT, k⟩ := h
  have R : RowX (cxOf CX0 P w K mg base ["x", "y", "z", "found"] "_law_made_a" (defScope sMade_a) f (.ref cd) A outer s H E).nox T := ⟨rfl, .inl rfl, .inl rfl, .inl rfl, hr, cd, Pt, TB, rfl, hm, hu⟩
  refine ⟨_, PSs.nox (pss_cons (ps_set (i := 3) scMade_a.nd rfl (.inl rfl) (pe_lst pa_nil))
    (pss_cons (row1 R (cT 0 ⟨2, "BadAnswer", ["thing"]⟩ rfl) rfl sh0 bd0 ⟨by decide, by decide⟩ rfl (by decide) rfl rfl)
    (pss_cons (row1 R (cT 1 ⟨3, "BadAround", ["thing"]⟩ rfl) rfl sh1 bd1 ⟨by decide, by decide⟩ rfl (by decide) rfl rfl)
    (pss_cons (row1 R (cT 2 ⟨4, "BadAsker", ["thing"]⟩ rfl) rfl sh2 bd2 ⟨by decide, by decide⟩ rfl (by decide) rfl rfl)
    (pss_cons (row1 R (cT 3 ⟨5, "BadChutes", ["index"]⟩ rfl) rfl sh3 bd3 ⟨by decide, by decide⟩ rfl (by decide) rfl rfl)
    (pss_cons (row1 R (cT 4 ⟨6, "BadClaim", ["thing"]⟩ rfl) rfl sh4 bd4 ⟨by decide, by decide⟩ rfl (by decide) rfl rfl)
    (pss_cons (row1 R (cT 5 ⟨7, "BadClaims", ["index"]⟩ rfl) rfl sh5 bd5 ⟨by decide, by decide⟩ rfl (by decide) rfl rfl)
    (pss_cons (row1 R (cT 6 ⟨8, "BadDeed", ["thing"]⟩ rfl) rfl sh6 bd6 ⟨by decide, by decide⟩ rfl (by decide) rfl rfl)
    (pss_cons (row1 R (cT 7 ⟨9, "BadDoors", ["index"]⟩ rfl) rfl sh7 bd7 ⟨by decide, by decide⟩ rfl (by decide) rfl rfl)
    (pss_cons (row1 R (cT 8 ⟨10, "BadDues", ["thing"]⟩ rfl) rfl sh8 bd8 ⟨by decide, by decide⟩ rfl (by decide) rfl rfl)
    (pss_cons (row1 R (cT 9 ⟨11, "BadFloors", ["index"]⟩ rfl) rfl sh9 bd9 ⟨by decide, by decide⟩ rfl (by decide) rfl rfl)
    (pss_cons (row1 R (cT 10 ⟨12, "BadGates", ["index"]⟩ rfl) rfl sh10 bd10 ⟨by decide, by decide⟩ rfl (by decide) rfl rfl)
    (pss_cons (row1 R (cT 11 ⟨13, "BadGiven", ["thing"]⟩ rfl) rfl sh11 bd11 ⟨by decide, by decide⟩ rfl (by decide) rfl rfl)
    (pss_cons (row1 R (cT 12 ⟨14, "BadGuesses", ["thing"]⟩ rfl) rfl sh12 bd12 ⟨by decide, by decide⟩ rfl (by decide) rfl rfl)
    (pss_cons (row1 R (cT 13 ⟨15, "BadInn", ["thing"]⟩ rfl) rfl sh13 bd13 ⟨by decide, by decide⟩ rfl (by decide) rfl rfl)
    (pss_cons (row1 R (cT 14 ⟨16, "BadKeeper", ["thing"]⟩ rfl) rfl sh14 bd14 ⟨by decide, by decide⟩ rfl (by decide) rfl rfl)
    (pss_cons (row1 R (cT 15 ⟨17, "BadKept", ["thing"]⟩ rfl) rfl sh15 bd15 ⟨by decide, by decide⟩ rfl (by decide) rfl rfl)
    (pss_cons (row1 R (cT 16 ⟨18, "BadLandings", ["index"]⟩ rfl) rfl sh16 bd16 ⟨by decide, by decide⟩ rfl (by decide) rfl rfl)
    (pss_cons (row1 R (cT 17 ⟨19, "BadLists", ["thing"]⟩ rfl) rfl sh17 bd17 ⟨by decide, by decide⟩ rfl (by decide) rfl rfl)
    (pss_one (ps_ret (pv 3)))))))))))))))))))))), ?_⟩
  refine ⟨Nat.zero_le _, fun fnd hf => ?_⟩
  have S0 : Sofar P w K mg base T H fnd 0 [] [] (upd H fnd (.lst [])) := ⟨upd_same, hf, fun b o e _ => (upd_ne (ne_of_none e hf)).trans e, hT.ext fun b o e => (upd_ne (ne_of_none e hf)).trans e, .nil, rfl⟩
  refine ⟨x, y, z, H, fnd, 0, _, _, rfl, by decide, S0, fun t1 H1 S1 => ?_⟩
  refine ⟨x, y, z, H, fnd, 1, _, _, rfl, by decide, S1, fun t2 H2 S2 => ?_⟩
  refine ⟨x, y, z, H, fnd, 2, _, _, rfl, by decide, S2, fun t3 H3 S3 => ?_⟩
  refine ⟨x, y, z, H, fnd, 3, _, _, rfl, by decide, S3, fun t4 H4 S4 => ?_⟩
  refine ⟨x, y, z, H, fnd, 4, _, _, rfl, by decide, S4, fun t5 H5 S5 => ?_⟩
  refine ⟨x, y, z, H, fnd, 5, _, _, rfl, by decide, S5, fun t6 H6 S6 => ?_⟩
  refine ⟨x, y, z, H, fnd, 6, _, _, rfl, by decide, S6, fun t7 H7 S7 => ?_⟩
  refine ⟨x, y, z, H, fnd, 7, _, _, rfl, by decide, S7, fun t8 H8 S8 => ?_⟩
  refine ⟨x, y, z, H, fnd, 8, _, _, rfl, by decide, S8, fun t9 H9 S9 => ?_⟩
  refine ⟨x, y, z, H, fnd, 9, _, _, rfl, by decide, S9, fun t10 H10 S10 => ?_⟩
  refine ⟨x, y, z, H, fnd, 10, _, _, rfl, by decide, S10, fun t11 H11 S11 => ?_⟩
  refine ⟨x, y, z, H, fnd, 11, _, _, rfl, by decide, S11, fun t12 H12 S12 => ?_⟩
  refine ⟨x, y, z, H, fnd, 12, _, _, rfl, by decide, S12, fun t13 H13 S13 => ?_⟩
  refine ⟨x, y, z, H, fnd, 13, _, _, rfl, by decide, S13, fun t14 H14 S14 => ?_⟩
  refine ⟨x, y, z, H, fnd, 14, _, _, rfl, by decide, S14, fun t15 H15 S15 => ?_⟩
  refine ⟨x, y, z, H, fnd, 15, _, _, rfl, by decide, S15, fun t16 H16 S16 => ?_⟩
  refine ⟨x, y, z, H, fnd, 16, _, _, rfl, by decide, S16, fun t17 H17 S17 => ?_⟩
  refine ⟨x, y, z, H, fnd, 17, _, _, rfl, by decide, S17, fun t18 H18 S18 => ?_⟩
  exact ⟨_, rfl, k fnd _ H18 S18.ext S18.tabs hf S18.lst (S18.all.on hid_sub)⟩
abbrev sMade_b : Stmt := top 90
theorem scMade_b : FnScope ["x", "y", "z", "found"] ["x", "y", "z"] (defScope sMade_b) := ⟨rfl, rfl, rfl, by decide +kernel, rfl, by decide +kernel, by decide +kernel⟩
theorem ok_made_b (F : FunD K "_law_made_b" "_law_made_b" (defArgs sMade_b) (defBody sMade_b) (defScope sMade_b) [] [] f fd) (hcode : fd.code = .ref cd) (TB : TabB base mg cd Pt) (hm : (Pt, lamQ "_law_made_b") ∈ T) (hu : ∀ p ∈ T, p.1 = Pt → p.2 = lamQ "_law_made_b") (cT : Classes K mg face Ca Fa) :
    FnOk P w K mg base CX0 4 f fd ["x", "y", "z"] (spMade P w K mg base T Ca 18 18) := by
  obtain ⟨oc, od, dV, kV, doc, pm, an, cdv, ct, osl, rfl, lk, hcd, _, _⟩ := F.ex
  have ec : cdv = .ref cd := hcode
  subst ec
  refine fn_of lk hcd scMade_b (fun vs H Q E h => ?_) (fun A outer s H vs Q E hr h => ?_)
  · obtain ⟨x, y, z, rfl, _⟩ := h
    rfl
  obtain ⟨x, y, z, rfl, hT, k⟩ := h
  have R : RowX (cxOf CX0 P w K mg base ["x", "y", "z", "found"] "_law_made_b" (defScope sMade_b) f (.ref cd) A outer s H E).nox T := ⟨rfl, .inl rfl, .inl rfl, .inl rfl, hr, cd, Pt, TB, rfl, hm, hu⟩
  refine ⟨_, PSs.nox (pss_cons (ps_set (i := 3) scMade_b.nd rfl (.inl rfl) (pe_lst pa_nil))
    (pss_cons (row1 R (cT 18 ⟨20, "BadLooker", ["thing"]⟩ rfl) rfl sh18 bd18 ⟨by decide, by decide⟩ rfl (by decide) rfl rfl)
    (pss_cons (row1 R (cT 19 ⟨21, "BadMany", ["many"]⟩ rfl) rfl sh19 bd19 ⟨by decide, by decide⟩ rfl (by decide) rfl rfl)
    (pss_cons (row1 R (cT 20 ⟨22, "BadMap", ["thing"]⟩ rfl) rfl sh20 bd20 ⟨by decide, by decide⟩ rfl (by decide) rfl rfl)
    (pss_cons (row1 R (cT 21 ⟨23, "BadName", ["thing"]⟩ rfl) rfl sh21 bd21 ⟨by decide, by decide⟩ rfl (by decide) rfl rfl)
    (pss_cons (row1 R (cT 22 ⟨24, "BadNames", ["thing"]⟩ rfl) rfl sh22 bd22 ⟨by decide, by decide⟩ rfl (by decide) rfl rfl)
    (pss_cons (row1 R (cT 23 ⟨25, "BadNumber", ["thing"]⟩ rfl) rfl sh23 bd23 ⟨by decide, by decide⟩ rfl (by decide) rfl rfl)
    (pss_cons (row1 R (cT 24 ⟨26, "BadOrder", ["index"]⟩ rfl) rfl sh24 bd24 ⟨by decide, by decide⟩ rfl (by decide) rfl rfl)
    (pss_cons (row1 R (cT 25 ⟨27, "BadPeople", ["index"]⟩ rfl) rfl sh25 bd25 ⟨by decide, by decide⟩ rfl (by decide) rfl rfl)
    (pss_cons (row1 R (cT 26 ⟨28, "BadPerson", ["thing"]⟩ rfl) rfl sh26 bd26 ⟨by decide, by decide⟩ rfl (by decide) rfl rfl)
    (pss_cons (row1 R (cT 27 ⟨29, "BadPiece", ["thing"]⟩ rfl) rfl sh27 bd27 ⟨by decide, by decide⟩ rfl (by decide) rfl rfl)
    (pss_cons (row1 R (cT 28 ⟨30, "BadPlacing", ["thing"]⟩ rfl) rfl sh28 bd28 ⟨by decide, by decide⟩ rfl (by decide) rfl rfl)
    (pss_cons (row1 R (cT 29 ⟨31, "BadQuestion", ["thing"]⟩ rfl) rfl sh29 bd29 ⟨by decide, by decide⟩ rfl (by decide) rfl rfl)
    (pss_cons (row1 R (cT 30 ⟨32, "BadRooms", ["index"]⟩ rfl) rfl sh30 bd30 ⟨by decide, by decide⟩ rfl (by decide) rfl rfl)
    (pss_cons (row1 R (cT 31 ⟨33, "BadRow", ["index"]⟩ rfl) rfl sh31 bd31 ⟨by decide, by decide⟩ rfl (by decide) rfl rfl)
    (pss_cons (row1 R (cT 32 ⟨34, "BadRows", ["thing"]⟩ rfl) rfl sh32 bd32 ⟨by decide, by decide⟩ rfl (by decide) rfl rfl)
    (pss_cons (row1 R (cT 33 ⟨35, "BadSeen", ["thing"]⟩ rfl) rfl sh33 bd33 ⟨by decide, by decide⟩ rfl (by decide) rfl rfl)
    (pss_cons (row1 R (cT 34 ⟨36, "BadShy", ["thing"]⟩ rfl) rfl sh34 bd34 ⟨by decide, by decide⟩ rfl (by decide) rfl rfl)
    (pss_cons (row1 R (cT 35 ⟨37, "BadSome", ["index"]⟩ rfl) rfl sh35 bd35 ⟨by decide, by decide⟩ rfl (by decide) rfl rfl)
    (pss_one (ps_ret (pv 3)))))))))))))))))))))), ?_⟩
  refine ⟨Nat.zero_le _, fun fnd hf => ?_⟩
  have S0 : Sofar P w K mg base T H fnd 0 [] [] (upd H fnd (.lst [])) := ⟨upd_same, hf, fun b o e _ => (upd_ne (ne_of_none e hf)).trans e, hT.ext fun b o e => (upd_ne (ne_of_none e hf)).trans e, .nil, rfl⟩
  refine ⟨x, y, z, H, fnd, 0, _, _, rfl, by decide, S0, fun t1 H1 S1 => ?_⟩
  refine ⟨x, y, z, H, fnd, 1, _, _, rfl, by decide, S1, fun t2 H2 S2 => ?_⟩
  refine ⟨x, y, z, H, fnd, 2, _, _, rfl, by decide, S2, fun t3 H3 S3 => ?_⟩
  refine ⟨x, y, z, H, fnd, 3, _, _, rfl, by decide, S3, fun t4 H4 S4 => ?_⟩
  refine ⟨x, y, z, H, fnd, 4, _, _, rfl, by decide, S4, fun t5 H5 S5 => ?_⟩
  refine ⟨x, y, z, H, fnd, 5, _, _, rfl, by decide, S5, fun t6 H6 S6 => ?_⟩
  refine ⟨x, y, z, H, fnd, 6, _, _, rfl, by decide, S6, fun t7 H7 S7 => ?_⟩
  refine ⟨x, y, z, H, fnd, 7, _, _, rfl, by decide, S7, fun t8 H8 S8 => ?_⟩
  refine ⟨x, y, z, H, fnd, 8, _, _, rfl, by decide, S8, fun t9 H9 S9 => ?_⟩
  refine ⟨x, y, z, H, fnd, 9, _, _, rfl, by decide, S9, fun t10 H10 S10 => ?_⟩
  refine ⟨x, y, z, H, fnd, 10, _, _, rfl, by decide, S10, fun t11 H11 S11 => ?_⟩
  refine ⟨x, y, z, H, fnd, 11, _, _, rfl, by decide, S11, fun t12 H12 S12 => ?_⟩
  refine ⟨x, y, z, H, fnd, 12, _, _, rfl, by decide, S12, fun t13 H13 S13 => ?_⟩
  refine ⟨x, y, z, H, fnd, 13, _, _, rfl, by decide, S13, fun t14 H14 S14 => ?_⟩
  refine ⟨x, y, z, H, fnd, 14, _, _, rfl, by decide, S14, fun t15 H15 S15 => ?_⟩
  refine ⟨x, y, z, H, fnd, 15, _, _, rfl, by decide, S15, fun t16 H16 S16 => ?_⟩
  refine ⟨x, y, z, H, fnd, 16, _, _, rfl, by decide, S16, fun t17 H17 S17 => ?_⟩
  refine ⟨x, y, z, H, fnd, 17, _, _, rfl, by decide, S17, fun t18 H18 S18 => ?_⟩
  exact ⟨_, rfl, k fnd _ H18 S18.ext S18.tabs hf S18.lst (S18.all.on hid_sub)⟩
abbrev sMade_c : Stmt := top 91
theorem scMade_c : FnScope ["x", "y", "z", "found"] ["x", "y", "z"] (defScope sMade_c) := ⟨rfl, rfl, rfl, by decide +kernel, rfl, by decide +kernel, by decide +kernel⟩
theorem ok_made_c (F : FunD K "_law_made_c" "_law_made_c" (defArgs sMade_c) (defBody sMade_c) (defScope sMade_c) [] [] f fd) (hcode : fd.code = .ref cd) (TB : TabB base mg cd Pt) (hm : (Pt, lamQ "_law_made_c") ∈ T) (hu : ∀ p ∈ T, p.1 = Pt → p.2 = lamQ "_law_made_c") (cT : Classes K mg face Ca Fa) :
    FnOk P w K mg base CX0 4 f fd ["x", "y", "z"] (spMade P w K mg base T Ca 36 18) := by
  obtain ⟨oc, od, dV, kV, doc, pm, an, cdv, ct, osl, rfl, lk, hcd, _, _⟩ := F.ex
  have ec : cdv = .ref cd := hcode
  subst ec
  refine fn_of lk hcd scMade_c (fun vs H Q E h => ?_) (fun A outer s H vs Q E hr h => ?_)
  · obtain ⟨x, y, z, rfl, _⟩ := h
    rfl
  obtain ⟨x, y, z, rfl, hT, k⟩ := h
  have R : RowX (cxOf CX0 P w K mg base ["x", "y", "z", "found"] "_law_made_c" (defScope sMade_c) f (.ref cd) A outer s H E).nox T := ⟨rfl, .inl rfl, .inl rfl, .inl rfl, hr, cd, Pt, TB, rfl, hm, hu⟩
  refine ⟨_, PSs.nox (pss_cons (ps_set (i := 3) scMade_c.nd rfl (.inl rfl) (pe_lst pa_nil))
    (pss_cons (row1 R (cT 36 ⟨38, "BadStart", ["thing"]⟩ rfl) rfl sh36 bd36 ⟨by decide, by decide⟩ rfl (by decide) rfl rfl)
    (pss_cons (row1 R (cT 37 ⟨39, "BadSteps", ["index"]⟩ rfl) rfl sh37 bd37 ⟨by decide, by decide⟩ rfl (by decide) rfl rfl)
    (pss_cons (row1 R (cT 38 ⟨40, "BadText", ["line"]⟩ rfl) rfl sh38 bd38 ⟨by decide, by decide⟩ rfl (by decide) rfl rfl)
    (pss_cons (row1 R (cT 39 ⟨41, "BadTurns", ["index"]⟩ rfl) rfl sh39 bd39 ⟨by decide, by decide⟩ rfl (by decide) rfl rfl)
    (pss_cons (row1 R (cT 40 ⟨42, "BadWishes", ["index"]⟩ rfl) rfl sh40 bd40 ⟨by decide, by decide⟩ rfl (by decide) rfl rfl)
    (pss_cons (row0 R (cT 41 ⟨43, "CanBeTold", []⟩ rfl) rfl rfl (by decide) rfl rfl)
    (pss_cons (row1 R (cT 42 ⟨44, "CommonPerson", ["name"]⟩ rfl) rfl sh42 bd42 ⟨by decide, by decide⟩ rfl (by decide) rfl rfl)
    (pss_cons (row1 R (cT 43 ⟨45, "CommonRoom", ["name"]⟩ rfl) rfl sh43 bd43 ⟨by decide, by decide⟩ rfl (by decide) rfl rfl)
    (pss_cons (row1 R (cT 44 ⟨46, "Crowded", ["room"]⟩ rfl) rfl sh44 bd44 ⟨by decide, by decide⟩ rfl (by decide) rfl rfl)
    (pss_cons (row0 R (cT 45 ⟨47, "HasRing", []⟩ rfl) rfl rfl (by decide) rfl rfl)
    (pss_cons (row1 R (cT 46 ⟨48, "InUse", ["question"]⟩ rfl) rfl sh46 bd46 ⟨by decide, by decide⟩ rfl (by decide) rfl rfl)
    (pss_cons (row2 R (cT 47 ⟨49, "IsDoor", ["one", "other"]⟩ rfl) rfl sh47 bd47 ⟨by decide, by decide⟩ ⟨by decide, by decide⟩ (by decide) rfl (by decide) rfl rfl)
    (pss_cons (row0 R (cT 48 ⟨50, "IsEnough", []⟩ rfl) rfl rfl (by decide) rfl rfl)
    (pss_cons (row1 R (cT 49 ⟨51, "IsShown", ["room"]⟩ rfl) rfl sh49 bd49 ⟨by decide, by decide⟩ rfl (by decide) rfl rfl)
    (pss_cons (row1 R (cT 50 ⟨52, "IsWatched", ["question"]⟩ rfl) rfl sh50 bd50 ⟨by decide, by decide⟩ rfl (by decide) rfl rfl)
    (pss_cons (row0 R (cT 51 ⟨53, "LastRoom", []⟩ rfl) rfl rfl (by decide) rfl rfl)
    (pss_cons (row1 R (cT 52 ⟨54, "NoCount", ["thing"]⟩ rfl) rfl sh52 bd52 ⟨by decide, by decide⟩ rfl (by decide) rfl rfl)
    (pss_cons (row2 R (cT 53 ⟨55, "NoDoor", ["one", "other"]⟩ rfl) rfl sh53 bd53 ⟨by decide, by decide⟩ ⟨by decide, by decide⟩ (by decide) rfl (by decide) rfl rfl)
    (pss_one (ps_ret (pv 3)))))))))))))))))))))), ?_⟩
  refine ⟨Nat.zero_le _, fun fnd hf => ?_⟩
  have S0 : Sofar P w K mg base T H fnd 0 [] [] (upd H fnd (.lst [])) := ⟨upd_same, hf, fun b o e _ => (upd_ne (ne_of_none e hf)).trans e, hT.ext fun b o e => (upd_ne (ne_of_none e hf)).trans e, .nil, rfl⟩
  refine ⟨x, y, z, H, fnd, 0, _, _, rfl, by decide, S0, fun t1 H1 S1 => ?_⟩
  refine ⟨x, y, z, H, fnd, 1, _, _, rfl, by decide, S1, fun t2 H2 S2 => ?_⟩
  refine ⟨x, y, z, H, fnd, 2, _, _, rfl, by decide, S2, fun t3 H3 S3 => ?_⟩
  refine ⟨x, y, z, H, fnd, 3, _, _, rfl, by decide, S3, fun t4 H4 S4 => ?_⟩
  refine ⟨x, y, z, H, fnd, 4, _, _, rfl, by decide, S4, fun t5 H5 S5 => ?_⟩
  refine ⟨x, y, z, H, fnd, 5, _, _, rfl, by decide, S5, fun t6 H6 S6 => ?_⟩
  refine ⟨x, y, z, H, fnd, 6, _, _, rfl, by decide, S6, fun t7 H7 S7 => ?_⟩
  refine ⟨x, y, z, H, fnd, 7, _, _, rfl, by decide, S7, fun t8 H8 S8 => ?_⟩
  refine ⟨x, y, z, H, fnd, 8, _, _, rfl, by decide, S8, fun t9 H9 S9 => ?_⟩
  refine ⟨x, y, z, H, fnd, 9, _, _, rfl, by decide, S9, fun t10 H10 S10 => ?_⟩
  refine ⟨x, y, z, H, fnd, 10, _, _, rfl, by decide, S10, fun t11 H11 S11 => ?_⟩
  refine ⟨x, y, z, H, fnd, 11, _, _, rfl, by decide, S11, fun t12 H12 S12 => ?_⟩
  refine ⟨x, y, z, H, fnd, 12, _, _, rfl, by decide, S12, fun t13 H13 S13 => ?_⟩
  refine ⟨x, y, z, H, fnd, 13, _, _, rfl, by decide, S13, fun t14 H14 S14 => ?_⟩
  refine ⟨x, y, z, H, fnd, 14, _, _, rfl, by decide, S14, fun t15 H15 S15 => ?_⟩
  refine ⟨x, y, z, H, fnd, 15, _, _, rfl, by decide, S15, fun t16 H16 S16 => ?_⟩
  refine ⟨x, y, z, H, fnd, 16, _, _, rfl, by decide, S16, fun t17 H17 S17 => ?_⟩
  refine ⟨x, y, z, H, fnd, 17, _, _, rfl, by decide, S17, fun t18 H18 S18 => ?_⟩
  exact ⟨_, rfl, k fnd _ H18 S18.ext S18.tabs hf S18.lst (S18.all.on hid_sub)⟩
abbrev sMade_d : Stmt := top 92
theorem scMade_d : FnScope ["x", "y", "z", "found"] ["x", "y", "z"] (defScope sMade_d) := ⟨rfl, rfl, rfl, by decide +kernel, rfl, by decide +kernel, by decide +kernel⟩
theorem ok_made_d (F : FunD K "_law_made_d" "_law_made_d" (defArgs sMade_d) (defBody sMade_d) (defScope sMade_d) [] [] f fd) (hcode : fd.code = .ref cd) (TB : TabB base mg cd Pt) (hm : (Pt, lamQ "_law_made_d") ∈ T) (hu : ∀ p ∈ T, p.1 = Pt → p.2 = lamQ "_law_made_d") (cT : Classes K mg face Ca Fa) :
    FnOk P w K mg base CX0 4 f fd ["x", "y", "z"] (spMade P w K mg base T Ca 54 18) := by
  obtain ⟨oc, od, dV, kV, doc, pm, an, cdv, ct, osl, rfl, lk, hcd, _, _⟩ := F.ex
  have ec : cdv = .ref cd := hcode
  subst ec
  refine fn_of lk hcd scMade_d (fun vs H Q E h => ?_) (fun A outer s H vs Q E hr h => ?_)
  · obtain ⟨x, y, z, rfl, _⟩ := h
    rfl
  obtain ⟨x, y, z, rfl, hT, k⟩ := h
  have R : RowX (cxOf CX0 P w K mg base ["x", "y", "z", "found"] "_law_made_d" (defScope sMade_d) f (.ref cd) A outer s H E).nox T := ⟨rfl, .inl rfl, .inl rfl, .inl rfl, hr, cd, Pt, TB, rfl, hm, hu⟩
  refine ⟨_, PSs.nox (pss_cons (ps_set (i := 3) scMade_d.nd rfl (.inl rfl) (pe_lst pa_nil))
    (pss_cons (row1 R (cT 54 ⟨56, "NoPerson", ["thing"]⟩ rfl) rfl sh54 bd54 ⟨by decide, by decide⟩ rfl (by decide) rfl rfl)
    (pss_cons (row1 R (cT 55 ⟨57, "NoRoom", ["thing"]⟩ rfl) rfl sh55 bd55 ⟨by decide, by decide⟩ rfl (by decide) rfl rfl)
    (pss_cons (row0 R (cT 56 ⟨58, "NoSteps", []⟩ rfl) rfl rfl (by decide) rfl rfl)
    (pss_cons (row0 R (cT 57 ⟨59, "NoTree", []⟩ rfl) rfl rfl (by decide) rfl rfl)
    (pss_cons (row1 R (cT 58 ⟨60, "NoTruth", ["thing"]⟩ rfl) rfl sh58 bd58 ⟨by decide, by decide⟩ rfl (by decide) rfl rfl)
    (pss_cons (row1 R (cT 59 ⟨61, "NoWalks", ["why"]⟩ rfl) rfl sh59 bd59 ⟨by decide, by decide⟩ rfl (by decide) rfl rfl)
    (pss_cons (row1 R (cT 60 ⟨62, "NoneGoes", ["people"]⟩ rfl) rfl sh60 bd60 ⟨by decide, by decide⟩ rfl (by decide) rfl rfl)
    (pss_cons (row0 R (cT 61 ⟨63, "NoneLeft", []⟩ rfl) rfl rfl (by decide) rfl rfl)
    (pss_cons (row1 R (cT 62 ⟨64, "NotBeside", ["room"]⟩ rfl) rfl sh62 bd62 ⟨by decide, by decide⟩ rfl (by decide) rfl rfl)
    (pss_cons (row1 R (cT 63 ⟨65, "NotFull", ["room"]⟩ rfl) rfl sh63 bd63 ⟨by decide, by decide⟩ rfl (by decide) rfl rfl)
    (pss_cons (row1 R (cT 64 ⟨66, "NotGoing", ["thing"]⟩ rfl) rfl sh64 bd64 ⟨by decide, by decide⟩ rfl (by decide) rfl rfl)
    (pss_cons (row1 R (cT 65 ⟨67, "NotLeaf", ["name"]⟩ rfl) rfl sh65 bd65 ⟨by decide, by decide⟩ rfl (by decide) rfl rfl)
    (pss_cons (row1 R (cT 66 ⟨68, "NotLeft", ["thing"]⟩ rfl) rfl sh66 bd66 ⟨by decide, by decide⟩ rfl (by decide) rfl rfl)
    (pss_cons (row0 R (cT 67 ⟨69, "NotOneGate", []⟩ rfl) rfl rfl (by decide) rfl rfl)
    (pss_cons (row1 R (cT 68 ⟨70, "NotPlaced", ["thing"]⟩ rfl) rfl sh68 bd68 ⟨by decide, by decide⟩ rfl (by decide) rfl rfl)
    (pss_cons (row1 R (cT 69 ⟨71, "NotSeen", ["room"]⟩ rfl) rfl sh69 bd69 ⟨by decide, by decide⟩ rfl (by decide) rfl rfl)
    (pss_cons (row1 R (cT 70 ⟨72, "NotShown", ["person"]⟩ rfl) rfl sh70 bd70 ⟨by decide, by decide⟩ rfl (by decide) rfl rfl)
    (pss_cons (row1 R (cT 71 ⟨73, "NotWatched", ["question"]⟩ rfl) rfl sh71 bd71 ⟨by decide, by decide⟩ rfl (by decide) rfl rfl)
    (pss_one (ps_ret (pv 3)))))))))))))))))))))), ?_⟩
  refine ⟨Nat.zero_le _, fun fnd hf => ?_⟩
  have S0 : Sofar P w K mg base T H fnd 0 [] [] (upd H fnd (.lst [])) := ⟨upd_same, hf, fun b o e _ => (upd_ne (ne_of_none e hf)).trans e, hT.ext fun b o e => (upd_ne (ne_of_none e hf)).trans e, .nil, rfl⟩
  refine ⟨x, y, z, H, fnd, 0, _, _, rfl, by decide, S0, fun t1 H1 S1 => ?_⟩
  refine ⟨x, y, z, H, fnd, 1, _, _, rfl, by decide, S1, fun t2 H2 S2 => ?_⟩
  refine ⟨x, y, z, H, fnd, 2, _, _, rfl, by decide, S2, fun t3 H3 S3 => ?_⟩
  refine ⟨x, y, z, H, fnd, 3, _, _, rfl, by decide, S3, fun t4 H4 S4 => ?_⟩
  refine ⟨x, y, z, H, fnd, 4, _, _, rfl, by decide, S4, fun t5 H5 S5 => ?_⟩
  refine ⟨x, y, z, H, fnd, 5, _, _, rfl, by decide, S5, fun t6 H6 S6 => ?_⟩
  refine ⟨x, y, z, H, fnd, 6, _, _, rfl, by decide, S6, fun t7 H7 S7 => ?_⟩
  refine ⟨x, y, z, H, fnd, 7, _, _, rfl, by decide, S7, fun t8 H8 S8 => ?_⟩
  refine ⟨x, y, z, H, fnd, 8, _, _, rfl, by decide, S8, fun t9 H9 S9 => ?_⟩
  refine ⟨x, y, z, H, fnd, 9, _, _, rfl, by decide, S9, fun t10 H10 S10 => ?_⟩
  refine ⟨x, y, z, H, fnd, 10, _, _, rfl, by decide, S10, fun t11 H11 S11 => ?_⟩
  refine ⟨x, y, z, H, fnd, 11, _, _, rfl, by decide, S11, fun t12 H12 S12 => ?_⟩
  refine ⟨x, y, z, H, fnd, 12, _, _, rfl, by decide, S12, fun t13 H13 S13 => ?_⟩
  refine ⟨x, y, z, H, fnd, 13, _, _, rfl, by decide, S13, fun t14 H14 S14 => ?_⟩
  refine ⟨x, y, z, H, fnd, 14, _, _, rfl, by decide, S14, fun t15 H15 S15 => ?_⟩
  refine ⟨x, y, z, H, fnd, 15, _, _, rfl, by decide, S15, fun t16 H16 S16 => ?_⟩
  refine ⟨x, y, z, H, fnd, 16, _, _, rfl, by decide, S16, fun t17 H17 S17 => ?_⟩
  refine ⟨x, y, z, H, fnd, 17, _, _, rfl, by decide, S17, fun t18 H18 S18 => ?_⟩
  exact ⟨_, rfl, k fnd _ H18 S18.ext S18.tabs hf S18.lst (S18.all.on hid_sub)⟩
abbrev sMade_e : Stmt := top 93
theorem scMade_e : FnScope ["x", "y", "z", "found"] ["x", "y", "z"] (defScope sMade_e) := ⟨rfl, rfl, rfl, by decide +kernel, rfl, by decide +kernel, by decide +kernel⟩
theorem ok_made_e (F : FunD K "_law_made_e" "_law_made_e" (defArgs sMade_e) (defBody sMade_e) (defScope sMade_e) [] [] f fd) (hcode : fd.code = .ref cd) (TB : TabB base mg cd Pt) (hm : (Pt, lamQ "_law_made_e") ∈ T) (hu : ∀ p ∈ T, p.1 = Pt → p.2 = lamQ "_law_made_e") (cT : Classes K mg face Ca Fa) :
    FnOk P w K mg base CX0 4 f fd ["x", "y", "z"] (spMade P w K mg base T Ca 72 11) := by
  obtain ⟨oc, od, dV, kV, doc, pm, an, cdv, ct, osl, rfl, lk, hcd, _, _⟩ := F.ex
  have ec : cdv = .ref cd := hcode
  subst ec
  refine fn_of lk hcd scMade_e (fun vs H Q E h => ?_) (fun A outer s H vs Q E hr h => ?_)
  · obtain ⟨x, y, z, rfl, _⟩ := h
    rfl
  obtain ⟨x, y, z, rfl, hT, k⟩ := h
  have R : RowX (cxOf CX0 P w K mg base ["x", "y", "z", "found"] "_law_made_e" (defScope sMade_e) f (.ref cd) A outer s H E).nox T := ⟨rfl, .inl rfl, .inl rfl, .inl rfl, hr, cd, Pt, TB, rfl, hm, hu⟩
  refine ⟨_, PSs.nox (pss_cons (ps_set (i := 3) scMade_e.nd rfl (.inl rfl) (pe_lst pa_nil))
    (pss_cons (row1 R (cT 72 ⟨74, "Occupied", ["room"]⟩ rfl) rfl sh72 bd72 ⟨by decide, by decide⟩ rfl (by decide) rfl rfl)
    (pss_cons (row1 R (cT 73 ⟨75, "OtherPeople", ["person"]⟩ rfl) rfl sh73 bd73 ⟨by decide, by decide⟩ rfl (by decide) rfl rfl)
    (pss_cons (row1 R (cT 74 ⟨76, "RoomTaken", ["name"]⟩ rfl) rfl sh74 bd74 ⟨by decide, by decide⟩ rfl (by decide) rfl rfl)
    (pss_cons (row1 R (cT 75 ⟨77, "SameRoom", ["room"]⟩ rfl) rfl sh75 bd75 ⟨by decide, by decide⟩ rfl (by decide) rfl rfl)
    (pss_cons (row1 R (cT 76 ⟨78, "ShowsNobody", ["room"]⟩ rfl) rfl sh76 bd76 ⟨by decide, by decide⟩ rfl (by decide) rfl rfl)
    (pss_cons (row1 R (cT 77 ⟨79, "TakenPerson", ["person"]⟩ rfl) rfl sh77 bd77 ⟨by decide, by decide⟩ rfl (by decide) rfl rfl)
    (pss_cons (row1 R (cT 78 ⟨80, "TakenRoom", ["room"]⟩ rfl) rfl sh78 bd78 ⟨by decide, by decide⟩ rfl (by decide) rfl rfl)
    (pss_cons (row0 R (cT 79 ⟨81, "UnlikeGates", []⟩ rfl) rfl rfl (by decide) rfl rfl)
    (pss_cons (row0 R (cT 80 ⟨82, "UnlikePeople", []⟩ rfl) rfl rfl (by decide) rfl rfl)
    (pss_cons (row1 R (cT 81 ⟨83, "UnlikeRooms", ["room"]⟩ rfl) rfl sh81 bd81 ⟨by decide, by decide⟩ rfl (by decide) rfl rfl)
    (pss_cons (row1 R (cT 82 ⟨84, "WouldChange", ["question"]⟩ rfl) rfl sh82 bd82 ⟨by decide, by decide⟩ rfl (by decide) rfl rfl)
    (pss_one (ps_ret (pv 3))))))))))))))), ?_⟩
  refine ⟨Nat.zero_le _, fun fnd hf => ?_⟩
  have S0 : Sofar P w K mg base T H fnd 0 [] [] (upd H fnd (.lst [])) := ⟨upd_same, hf, fun b o e _ => (upd_ne (ne_of_none e hf)).trans e, hT.ext fun b o e => (upd_ne (ne_of_none e hf)).trans e, .nil, rfl⟩
  refine ⟨x, y, z, H, fnd, 0, _, _, rfl, by decide, S0, fun t1 H1 S1 => ?_⟩
  refine ⟨x, y, z, H, fnd, 1, _, _, rfl, by decide, S1, fun t2 H2 S2 => ?_⟩
  refine ⟨x, y, z, H, fnd, 2, _, _, rfl, by decide, S2, fun t3 H3 S3 => ?_⟩
  refine ⟨x, y, z, H, fnd, 3, _, _, rfl, by decide, S3, fun t4 H4 S4 => ?_⟩
  refine ⟨x, y, z, H, fnd, 4, _, _, rfl, by decide, S4, fun t5 H5 S5 => ?_⟩
  refine ⟨x, y, z, H, fnd, 5, _, _, rfl, by decide, S5, fun t6 H6 S6 => ?_⟩
  refine ⟨x, y, z, H, fnd, 6, _, _, rfl, by decide, S6, fun t7 H7 S7 => ?_⟩
  refine ⟨x, y, z, H, fnd, 7, _, _, rfl, by decide, S7, fun t8 H8 S8 => ?_⟩
  refine ⟨x, y, z, H, fnd, 8, _, _, rfl, by decide, S8, fun t9 H9 S9 => ?_⟩
  refine ⟨x, y, z, H, fnd, 9, _, _, rfl, by decide, S9, fun t10 H10 S10 => ?_⟩
  refine ⟨x, y, z, H, fnd, 10, _, _, rfl, by decide, S10, fun t11 H11 S11 => ?_⟩
  exact ⟨_, rfl, k fnd _ H11 S11.ext S11.tabs hf S11.lst (S11.all.on hid_sub)⟩
end
end K0
end T_K0Made
section T_K0Kind
set_option Elab.async false
set_option linter.all false
set_option maxRecDepth 100000
set_option maxHeartbeats 4000000
namespace K0
open PySem PySem.Spec PyProof.Rows L2 LamX NdefX LamV ErrX
/-- between the questions: the list found at fnd holds the answers so far -/
structure Asked (H0 : Hp) (fnd : Addr) (bs : List V) (H : Hp) : Prop where
  lst : H fnd = some (.lst bs)
  new : H0 fnd = none
  same : Same H0 H
/-- what is asked of the class of the exception at a, and of the j-th class (at D) -/
structure KindX (K : PySem.W.Frag) (mg : Str → Option Value) (C D : Addr) (x : Str) (b : Bool) : Prop where
  g : mg x = some (.ref D)
  k : PySem.W.kitOne K (.ref C) (.ref D) = some b
def tKind (K : PySem.W.Frag) (C : Addr) (bs' : List V) : TS := fun D σ H => ∃ (a fnd : Addr) (fvs : List (Str × V)) (H0 : Hp) (bs : List V), σ = [some (.ref a), some (.ref fnd)] ∧ ErrAt H0 a C fvs ∧ Asked H0 fnd bs H ∧ bs.length < 500 ∧
  ∀ H', Asked H0 fnd (bs ++ bs') H' → D.nx σ H'
section
variable {X : Cx} {C D1 D2 : Addr} {x1 x2 : Str} {b1 b2 : Bool} {p1 p2 p3 p4 p5 p6 p7 p8 p9 pa pb pc pd : Pos}
theorem kind_end {H0 H : Hp} {fnd l : Addr} {bs bs' : List V} {Q : Hp → Prop} (A : Asked H0 fnd bs H) (hl : H l = none) (hb : bs.length < 500) (hb' : bs'.length ≤ 2) (k : ∀ H', Asked H0 fnd (bs ++ bs') H' → Q H') :
    rExtend (.ref fnd) [.ref l] (upd H l (.lst bs')) (fun _ H' => Q H') := by
  have nl : fnd ≠ l := ne_of_none A.lst hl
  refine ⟨fnd, l, bs, bs', rfl, rfl, (upd_ne nl).trans A.lst, upd_same, Nat.le_of_lt (small1000 (by omega)), k _ ⟨upd_same, A.new, fun b o e => ?_⟩⟩
  have e1 := A.same _ _ e
  exact (upd_ne (ne_of_none e A.new)).trans ((upd_ne (ne_of_none e1 hl)).trans e1)
theorem kind2 (hN : X.N = ([("e" : Str), "found"] : List Str)) (ve : Vis X.env.scope "e") (vf : Vis X.env.scope "found") (gi : Gl X "isinstance") (mi : X.mg "isinstance" = none) (T : ErrC X.K C) (k1 : KindX X.K X.mg C D1 x1 b1) (k2 : KindX X.K X.mg C D2 x2 b2)
    (g1 : Gl X x1) (g2 : Gl X x2) (d1 : (x1 == ("__debug__" : Str)) = false) (d2 : (x2 == ("__debug__" : Str)) = false) (hline : (p2.endLine == pc.line) = true)
    (hq : swapsWith (.Call (.Attribute (.Name "found" p1) "extend" p2) [.List [.Call (.Name "isinstance" p3) [.Name "e" p4, .Name x1 p5] [] p6, .Call (.Name "isinstance" p7) [.Name "e" p8, .Name x2 p9] [] pa] pb] [] pc) none pd.line X.env = pure false) :
    PS X (.Expr (.Call (.Attribute (.Name "found" p1) "extend" p2) [.List [.Call (.Name "isinstance" p3) [.Name "e" p4, .Name x1 p5] [] p6, .Call (.Name "isinstance" p7) [.Name "e" p8, .Name x2 p9] [] pa] pb] [] pc) pd) (tKind X.K C [.bl b1, .bl b2]) := by
  have pe : ∀ {p : Pos}, PE X (.Name "e" p) (tVar 0) := fun {p} => pe_var (by rw [hN] <;> rfl) ve
  have pfd : ∀ {p : Pos}, PE X (.Name "found" p) (tVar 1) := fun {p} => pe_var (by rw [hN] <;> rfl) vf
  have q1 := pe_callB (pos := p6) (p := p3) call_isX gi mi (by decide +kernel) (pa_cons (pe (p := p4)) (pa_cons (pe_glob (pos := p5) (v := .ref D1) g1 k1.g rfl d1) pa_nil))
  have q2 := pe_callB (pos := pa) (p := p7) call_isX gi mi (by decide +kernel) (pa_cons (pe (p := p8)) (pa_cons (pe_glob (pos := p9) (v := .ref D2) g2 k2.g rfl d2) pa_nil))
  have A := ps_expr (pos := pd) (pe_bm (apos := p2) (cpos := pc) PySem.F.plainAttrs_list PySem.F.slot_list_extend PySem.F.type_list_extend mt_extend (pfd (p := p1)) (pa_cons (pe_lst (pos := pb) (pa_cons q1 (pa_cons q2 pa_nil))) pa_nil) rfl rfl hline rfl rfl) hq
  refine ⟨fun pins s σ H D I h => A.run pins s σ H D I ?_⟩
  obtain ⟨a, fnd, fvs, H0, bs, rfl, ea, As, hb, k⟩ := h
  have ea1 : ErrAt H a C fvs := ea.on fun b φ e => As.same _ _ e
  refine ⟨.ref fnd, rfl, .inl ⟨rfl, _, SqL.of As.lst⟩, .ref a, rfl, a, C, fvs, .ref D1, .ref D1, b1, rfl, ea1, T, fun u z => z, k1.k, .ref a, rfl, a, C, fvs, .ref D2, .ref D2, b2, rfl, ea1, T, fun u z => z, k2.k, by show 2 ≤ sizeLine; decide, fun l hl => ?_⟩
  exact kind_end As hl hb (Nat.le_refl 2) fun H' q => k H' q
theorem kind1 (hN : X.N = ([("e" : Str), "found"] : List Str)) (ve : Vis X.env.scope "e") (vf : Vis X.env.scope "found") (gi : Gl X "isinstance") (mi : X.mg "isinstance" = none) (T : ErrC X.K C) (k1 : KindX X.K X.mg C D1 x1 b1)
    (g1 : Gl X x1) (d1 : (x1 == ("__debug__" : Str)) = false) (hline : (p2.endLine == pc.line) = true)
    (hq : swapsWith (.Call (.Attribute (.Name "found" p1) "extend" p2) [.List [.Call (.Name "isinstance" p3) [.Name "e" p4, .Name x1 p5] [] p6] pb] [] pc) none pd.line X.env = pure false) :
    PS X (.Expr (.Call (.Attribute (.Name "found" p1) "extend" p2) [.List [.Call (.Name "isinstance" p3) [.Name "e" p4, .Name x1 p5] [] p6] pb] [] pc) pd) (tKind X.K C [.bl b1]) := by
  have pe : ∀ {p : Pos}, PE X (.Name "e" p) (tVar 0) := fun {p} => pe_var (by rw [hN] <;> rfl) ve
  have pfd : ∀ {p : Pos}, PE X (.Name "found" p) (tVar 1) := fun {p} => pe_var (by rw [hN] <;> rfl) vf
  have q1 := pe_callB (pos := p6) (p := p3) call_isX gi mi (by decide +kernel) (pa_cons (pe (p := p4)) (pa_cons (pe_glob (pos := p5) (v := .ref D1) g1 k1.g rfl d1) pa_nil))
  have A := ps_expr (pos := pd) (pe_bm (apos := p2) (cpos := pc) PySem.F.plainAttrs_list PySem.F.slot_list_extend PySem.F.type_list_extend mt_extend (pfd (p := p1)) (pa_cons (pe_lst (pos := pb) (pa_cons q1 pa_nil)) pa_nil) rfl rfl hline rfl rfl) hq
  refine ⟨fun pins s σ H D I h => A.run pins s σ H D I ?_⟩
  obtain ⟨a, fnd, fvs, H0, bs, rfl, ea, As, hb, k⟩ := h
  have ea1 : ErrAt H a C fvs := ea.on fun b φ e => As.same _ _ e
  refine ⟨.ref fnd, rfl, .inl ⟨rfl, _, SqL.of As.lst⟩, .ref a, rfl, a, C, fvs, .ref D1, .ref D1, b1, rfl, ea1, T, fun u z => z, k1.k, by show 1 ≤ sizeLine; decide, fun l hl => ?_⟩
  exact kind_end As hl hb (by show 1 ≤ 2; decide) fun H' q => k H' q
end
/-- the answers to all questions about the class at C -/
def Kinds (K : PySem.W.Frag) (mg : Str → Option Value) (Ca : Nat → Addr) (C : Addr) (b : Nat → Bool) : Prop := ∀ (j : Nat) (r : Row), rows[j]? = some r → KindX K mg C (Ca j) r.x (b j)
def spKinds (K : PySem.W.Frag) (mg : Str → Option Value) (Ca : Nat → Addr) (lo n : Nat) : Sp := fun vs H Q _ => ∃ (a C : Addr) (fvs : List (Str × V)) (b : Nat → Bool), vs = [.ref a] ∧ ErrAt H a C fvs ∧ ErrC K C ∧ Kinds K mg Ca C b ∧
  ∀ (q : Addr) (H' : Hp), Same H H' → H q = none → H' q = some (.lst ((List.range' lo n).map fun j => V.bl (b j))) → Q (.ref q) H'
section
variable {P : Program} {w : World} {K : PySem.W.Frag} {mg : Str → Option Value} {base : Heap} {Ca : Nat → Addr} {f : Addr} {fd : FuncData}
abbrev sKinds_a : Stmt := top 94
theorem scKinds_a : FnScope ["e", "found"] ["e"] (defScope sKinds_a) := ⟨rfl, rfl, rfl, by decide +kernel, rfl, by decide +kernel, by decide +kernel⟩
theorem ok_kinds_a (F : FunD K "_law_kinds_a" "_law_kinds_a" (defArgs sKinds_a) (defBody sKinds_a) (defScope sKinds_a) [] [] f fd) (fr : Frees mg) : FnOk P w K mg base CX0 1 f fd ["e"] (spKinds K mg Ca 0 18) := by
  have mi : mg "isinstance" = none := fr "isinstance" (by decide +kernel)
  refine F.ok scKinds_a (fun vs H Q E h => ?_) (fun cdv A outer s H vs Q E hr h => ?_)
  · obtain ⟨a, C, fvs, b, rfl, _⟩ := h
    rfl
  obtain ⟨a, C, fvs, b, rfl, ea, T, kd, k⟩ := h
  refine ⟨_, PSs.nox (pss_cons (ps_set (i := 1) scKinds_a.nd rfl (.inl rfl) (pe_lst pa_nil))
    (pss_cons (kind2 (b1 := b 0) (b2 := b 1) rfl (.inl rfl) (.inl rfl) rfl mi T (kd 0 ⟨2, "BadAnswer", ["thing"]⟩ rfl) (kd 1 ⟨3, "BadAround", ["thing"]⟩ rfl) rfl rfl (by decide) (by decide) rfl rfl)
    (pss_cons (kind2 (b1 := b 2) (b2 := b 3) rfl (.inl rfl) (.inl rfl) rfl mi T (kd 2 ⟨4, "BadAsker", ["thing"]⟩ rfl) (kd 3 ⟨5, "BadChutes", ["index"]⟩ rfl) rfl rfl (by decide) (by decide) rfl rfl)
    (pss_cons (kind2 (b1 := b 4) (b2 := b 5) rfl (.inl rfl) (.inl rfl) rfl mi T (kd 4 ⟨6, "BadClaim", ["thing"]⟩ rfl) (kd 5 ⟨7, "BadClaims", ["index"]⟩ rfl) rfl rfl (by decide) (by decide) rfl rfl)
    (pss_cons (kind2 (b1 := b 6) (b2 := b 7) rfl (.inl rfl) (.inl rfl) rfl mi T (kd 6 ⟨8, "BadDeed", ["thing"]⟩ rfl) (kd 7 ⟨9, "BadDoors", ["index"]⟩ rfl) rfl rfl (by decide) (by decide) rfl rfl)
    (pss_cons (kind2 (b1 := b 8) (b2 := b 9) rfl (.inl rfl) (.inl rfl) rfl mi T (kd 8 ⟨10, "BadDues", ["thing"]⟩ rfl) (kd 9 ⟨11, "BadFloors", ["index"]⟩ rfl) rfl rfl (by decide) (by decide) rfl rfl)
    (pss_cons (kind2 (b1 := b 10) (b2 := b 11) rfl (.inl rfl) (.inl rfl) rfl mi T (kd 10 ⟨12, "BadGates", ["index"]⟩ rfl) (kd 11 ⟨13, "BadGiven", ["thing"]⟩ rfl) rfl rfl (by decide) (by decide) rfl rfl)
    (pss_cons (kind2 (b1 := b 12) (b2 := b 13) rfl (.inl rfl) (.inl rfl) rfl mi T (kd 12 ⟨14, "BadGuesses", ["thing"]⟩ rfl) (kd 13 ⟨15, "BadInn", ["thing"]⟩ rfl) rfl rfl (by decide) (by decide) rfl rfl)
    (pss_cons (kind2 (b1 := b 14) (b2 := b 15) rfl (.inl rfl) (.inl rfl) rfl mi T (kd 14 ⟨16, "BadKeeper", ["thing"]⟩ rfl) (kd 15 ⟨17, "BadKept", ["thing"]⟩ rfl) rfl rfl (by decide) (by decide) rfl rfl)
    (pss_cons (kind2 (b1 := b 16) (b2 := b 17) rfl (.inl rfl) (.inl rfl) rfl mi T (kd 16 ⟨18, "BadLandings", ["index"]⟩ rfl) (kd 17 ⟨19, "BadLists", ["thing"]⟩ rfl) rfl rfl (by decide) (by decide) rfl rfl)
    (pss_one (ps_ret (pv 1))))))))))))), ?_⟩
  refine ⟨Nat.zero_le _, fun fnd hf => ?_⟩
  have S0 : Asked H fnd [] (upd H fnd (.lst [])) := ⟨upd_same, hf, fun b o e => (upd_ne (ne_of_none e hf)).trans e⟩
  refine ⟨a, fnd, fvs, H, _, rfl, ea, S0, (by show 0 < 500; decide), fun H1 S1 => ?_⟩
  refine ⟨a, fnd, fvs, H, _, rfl, ea, S1, (by show 2 < 500; decide), fun H2 S2 => ?_⟩
  refine ⟨a, fnd, fvs, H, _, rfl, ea, S2, (by show 4 < 500; decide), fun H3 S3 => ?_⟩
  refine ⟨a, fnd, fvs, H, _, rfl, ea, S3, (by show 6 < 500; decide), fun H4 S4 => ?_⟩
  refine ⟨a, fnd, fvs, H, _, rfl, ea, S4, (by show 8 < 500; decide), fun H5 S5 => ?_⟩
  refine ⟨a, fnd, fvs, H, _, rfl, ea, S5, (by show 10 < 500; decide), fun H6 S6 => ?_⟩
  refine ⟨a, fnd, fvs, H, _, rfl, ea, S6, (by show 12 < 500; decide), fun H7 S7 => ?_⟩
  refine ⟨a, fnd, fvs, H, _, rfl, ea, S7, (by show 14 < 500; decide), fun H8 S8 => ?_⟩
  refine ⟨a, fnd, fvs, H, _, rfl, ea, S8, (by show 16 < 500; decide), fun H9 S9 => ?_⟩
  exact ⟨_, rfl, k fnd _ S9.same hf S9.lst⟩
abbrev sKinds_b : Stmt := top 95
theorem scKinds_b : FnScope ["e", "found"] ["e"] (defScope sKinds_b) := ⟨rfl, rfl, rfl, by decide +kernel, rfl, by decide +kernel, by decide +kernel⟩
theorem ok_kinds_b (F : FunD K "_law_kinds_b" "_law_kinds_b" (defArgs sKinds_b) (defBody sKinds_b) (defScope sKinds_b) [] [] f fd) (fr : Frees mg) : FnOk P w K mg base CX0 1 f fd ["e"] (spKinds K mg Ca 18 18) := by
  have mi : mg "isinstance" = none := fr "isinstance" (by decide +kernel)
  refine F.ok scKinds_b (fun vs H Q E h => ?_) (fun cdv A outer s H vs Q E hr h => ?_)
  · obtain ⟨a, C, fvs, b, rfl, _⟩ := h
    rfl
  obtain ⟨a, C, fvs, b, rfl, ea, T, kd, k⟩ := h
  refine ⟨_, PSs.nox (pss_cons (ps_set (i := 1) scKinds_b.nd rfl (.inl rfl) (pe_lst pa_nil))
    (pss_cons (kind2 (b1 := b 18) (b2 := b 19) rfl (.inl rfl) (.inl rfl) rfl mi T (kd 18 ⟨20, "BadLooker", ["thing"]⟩ rfl) (kd 19 ⟨21, "BadMany", ["many"]⟩ rfl) rfl rfl (by decide) (by decide) rfl rfl)
    (pss_cons (kind2 (b1 := b 20) (b2 := b 21) rfl (.inl rfl) (.inl rfl) rfl mi T (kd 20 ⟨22, "BadMap", ["thing"]⟩ rfl) (kd 21 ⟨23, "BadName", ["thing"]⟩ rfl) rfl rfl (by decide) (by decide) rfl rfl)
    (pss_cons (kind2 (b1 := b 22) (b2 := b 23) rfl (.inl rfl) (.inl rfl) rfl mi T (kd 22 ⟨24, "BadNames", ["thing"]⟩ rfl) (kd 23 ⟨25, "BadNumber", ["thing"]⟩ rfl) rfl rfl (by decide) (by decide) rfl rfl)
    (pss_cons (kind2 (b1 := b 24) (b2 := b 25) rfl (.inl rfl) (.inl rfl) rfl mi T (kd 24 ⟨26, "BadOrder", ["index"]⟩ rfl) (kd 25 ⟨27, "BadPeople", ["index"]⟩ rfl) rfl rfl (by decide) (by decide) rfl rfl)
    (pss_cons (kind2 (b1 := b 26) (b2 := b 27) rfl (.inl rfl) (.inl rfl) rfl mi T (kd 26 ⟨28, "BadPerson", ["thing"]⟩ rfl) (kd 27 ⟨29, "BadPiece", ["thing"]⟩ rfl) rfl rfl (by decide) (by decide) rfl rfl)
    (pss_cons (kind2 (b1 := b 28) (b2 := b 29) rfl (.inl rfl) (.inl rfl) rfl mi T (kd 28 ⟨30, "BadPlacing", ["thing"]⟩ rfl) (kd 29 ⟨31, "BadQuestion", ["thing"]⟩ rfl) rfl rfl (by decide) (by decide) rfl rfl)
    (pss_cons (kind2 (b1 := b 30) (b2 := b 31) rfl (.inl rfl) (.inl rfl) rfl mi T (kd 30 ⟨32, "BadRooms", ["index"]⟩ rfl) (kd 31 ⟨33, "BadRow", ["index"]⟩ rfl) rfl rfl (by decide) (by decide) rfl rfl)
    (pss_cons (kind2 (b1 := b 32) (b2 := b 33) rfl (.inl rfl) (.inl rfl) rfl mi T (kd 32 ⟨34, "BadRows", ["thing"]⟩ rfl) (kd 33 ⟨35, "BadSeen", ["thing"]⟩ rfl) rfl rfl (by decide) (by decide) rfl rfl)
    (pss_cons (kind2 (b1 := b 34) (b2 := b 35) rfl (.inl rfl) (.inl rfl) rfl mi T (kd 34 ⟨36, "BadShy", ["thing"]⟩ rfl) (kd 35 ⟨37, "BadSome", ["index"]⟩ rfl) rfl rfl (by decide) (by decide) rfl rfl)
    (pss_one (ps_ret (pv 1))))))))))))), ?_⟩
  refine ⟨Nat.zero_le _, fun fnd hf => ?_⟩
  have S0 : Asked H fnd [] (upd H fnd (.lst [])) := ⟨upd_same, hf, fun b o e => (upd_ne (ne_of_none e hf)).trans e⟩
  refine ⟨a, fnd, fvs, H, _, rfl, ea, S0, (by show 0 < 500; decide), fun H1 S1 => ?_⟩
  refine ⟨a, fnd, fvs, H, _, rfl, ea, S1, (by show 2 < 500; decide), fun H2 S2 => ?_⟩
  refine ⟨a, fnd, fvs, H, _, rfl, ea, S2, (by show 4 < 500; decide), fun H3 S3 => ?_⟩
  refine ⟨a, fnd, fvs, H, _, rfl, ea, S3, (by show 6 < 500; decide), fun H4 S4 => ?_⟩
  refine ⟨a, fnd, fvs, H, _, rfl, ea, S4, (by show 8 < 500; decide), fun H5 S5 => ?_⟩
  refine ⟨a, fnd, fvs, H, _, rfl, ea, S5, (by show 10 < 500; decide), fun H6 S6 => ?_⟩
  refine ⟨a, fnd, fvs, H, _, rfl, ea, S6, (by show 12 < 500; decide), fun H7 S7 => ?_⟩
  refine ⟨a, fnd, fvs, H, _, rfl, ea, S7, (by show 14 < 500; decide), fun H8 S8 => ?_⟩
  refine ⟨a, fnd, fvs, H, _, rfl, ea, S8, (by show 16 < 500; decide), fun H9 S9 => ?_⟩
  exact ⟨_, rfl, k fnd _ S9.same hf S9.lst⟩
abbrev sKinds_c : Stmt := top 96
theorem scKinds_c : FnScope ["e", "found"] ["e"] (defScope sKinds_c) := ⟨rfl, rfl, rfl, by decide +kernel, rfl, by decide +kernel, by decide +kernel⟩
theorem ok_kinds_c (F : FunD K "_law_kinds_c" "_law_kinds_c" (defArgs sKinds_c) (defBody sKinds_c) (defScope sKinds_c) [] [] f fd) (fr : Frees mg) : FnOk P w K mg base CX0 1 f fd ["e"] (spKinds K mg Ca 36 18) := by
  have mi : mg "isinstance" = none := fr "isinstance" (by decide +kernel)
  refine F.ok scKinds_c (fun vs H Q E h => ?_) (fun cdv A outer s H vs Q E hr h => ?_)
  · obtain ⟨a, C, fvs, b, rfl, _⟩ := h
    rfl
  obtain ⟨a, C, fvs, b, rfl, ea, T, kd, k⟩ := h
  refine ⟨_, PSs.nox (pss_cons (ps_set (i := 1) scKinds_c.nd rfl (.inl rfl) (pe_lst pa_nil))
    (pss_cons (kind2 (b1 := b 36) (b2 := b 37) rfl (.inl rfl) (.inl rfl) rfl mi T (kd 36 ⟨38, "BadStart", ["thing"]⟩ rfl) (kd 37 ⟨39, "BadSteps", ["index"]⟩ rfl) rfl rfl (by decide) (by decide) rfl rfl)
    (pss_cons (kind2 (b1 := b 38) (b2 := b 39) rfl (.inl rfl) (.inl rfl) rfl mi T (kd 38 ⟨40, "BadText", ["line"]⟩ rfl) (kd 39 ⟨41, "BadTurns", ["index"]⟩ rfl) rfl rfl (by decide) (by decide) rfl rfl)
    (pss_cons (kind2 (b1 := b 40) (b2 := b 41) rfl (.inl rfl) (.inl rfl) rfl mi T (kd 40 ⟨42, "BadWishes", ["index"]⟩ rfl) (kd 41 ⟨43, "CanBeTold", []⟩ rfl) rfl rfl (by decide) (by decide) rfl rfl)
    (pss_cons (kind2 (b1 := b 42) (b2 := b 43) rfl (.inl rfl) (.inl rfl) rfl mi T (kd 42 ⟨44, "CommonPerson", ["name"]⟩ rfl) (kd 43 ⟨45, "CommonRoom", ["name"]⟩ rfl) rfl rfl (by decide) (by decide) rfl rfl)
    (pss_cons (kind2 (b1 := b 44) (b2 := b 45) rfl (.inl rfl) (.inl rfl) rfl mi T (kd 44 ⟨46, "Crowded", ["room"]⟩ rfl) (kd 45 ⟨47, "HasRing", []⟩ rfl) rfl rfl (by decide) (by decide) rfl rfl)
    (pss_cons (kind2 (b1 := b 46) (b2 := b 47) rfl (.inl rfl) (.inl rfl) rfl mi T (kd 46 ⟨48, "InUse", ["question"]⟩ rfl) (kd 47 ⟨49, "IsDoor", ["one", "other"]⟩ rfl) rfl rfl (by decide) (by decide) rfl rfl)
    (pss_cons (kind2 (b1 := b 48) (b2 := b 49) rfl (.inl rfl) (.inl rfl) rfl mi T (kd 48 ⟨50, "IsEnough", []⟩ rfl) (kd 49 ⟨51, "IsShown", ["room"]⟩ rfl) rfl rfl (by decide) (by decide) rfl rfl)
    (pss_cons (kind2 (b1 := b 50) (b2 := b 51) rfl (.inl rfl) (.inl rfl) rfl mi T (kd 50 ⟨52, "IsWatched", ["question"]⟩ rfl) (kd 51 ⟨53, "LastRoom", []⟩ rfl) rfl rfl (by decide) (by decide) rfl rfl)
    (pss_cons (kind2 (b1 := b 52) (b2 := b 53) rfl (.inl rfl) (.inl rfl) rfl mi T (kd 52 ⟨54, "NoCount", ["thing"]⟩ rfl) (kd 53 ⟨55, "NoDoor", ["one", "other"]⟩ rfl) rfl rfl (by decide) (by decide) rfl rfl)
    (pss_one (ps_ret (pv 1))))))))))))), ?_⟩
  refine ⟨Nat.zero_le _, fun fnd hf => ?_⟩
  have S0 : Asked H fnd [] (upd H fnd (.lst [])) := ⟨upd_same, hf, fun b o e => (upd_ne (ne_of_none e hf)).trans e⟩
  refine ⟨a, fnd, fvs, H, _, rfl, ea, S0, (by show 0 < 500; decide), fun H1 S1 => ?_⟩
  refine ⟨a, fnd, fvs, H, _, rfl, ea, S1, (by show 2 < 500; decide), fun H2 S2 => ?_⟩
  refine ⟨a, fnd, fvs, H, _, rfl, ea, S2, (by show 4 < 500; decide), fun H3 S3 => ?_⟩
  refine ⟨a, fnd, fvs, H, _, rfl, ea, S3, (by show 6 < 500; decide), fun H4 S4 => ?_⟩
  refine ⟨a, fnd, fvs, H, _, rfl, ea, S4, (by show 8 < 500; decide), fun H5 S5 => ?_⟩
  refine ⟨a, fnd, fvs, H, _, rfl, ea, S5, (by show 10 < 500; decide), fun H6 S6 => ?_⟩
  refine ⟨a, fnd, fvs, H, _, rfl, ea, S6, (by show 12 < 500; decide), fun H7 S7 => ?_⟩
  refine ⟨a, fnd, fvs, H, _, rfl, ea, S7, (by show 14 < 500; decide), fun H8 S8 => ?_⟩
  refine ⟨a, fnd, fvs, H, _, rfl, ea, S8, (by show 16 < 500; decide), fun H9 S9 => ?_⟩
  exact ⟨_, rfl, k fnd _ S9.same hf S9.lst⟩
abbrev sKinds_d : Stmt := top 97
theorem scKinds_d : FnScope ["e", "found"] ["e"] (defScope sKinds_d) := ⟨rfl, rfl, rfl, by decide +kernel, rfl, by decide +kernel, by decide +kernel⟩
theorem ok_kinds_d (F : FunD K "_law_kinds_d" "_law_kinds_d" (defArgs sKinds_d) (defBody sKinds_d) (defScope sKinds_d) [] [] f fd) (fr : Frees mg) : FnOk P w K mg base CX0 1 f fd ["e"] (spKinds K mg Ca 54 18) := by
  have mi : mg "isinstance" = none := fr "isinstance" (by decide +kernel)
  refine F.ok scKinds_d (fun vs H Q E h => ?_) (fun cdv A outer s H vs Q E hr h => ?_)
  · obtain ⟨a, C, fvs, b, rfl, _⟩ := h
    rfl
  obtain ⟨a, C, fvs, b, rfl, ea, T, kd, k⟩ := h
  refine ⟨_, PSs.nox (pss_cons (ps_set (i := 1) scKinds_d.nd rfl (.inl rfl) (pe_lst pa_nil))
    (pss_cons (kind2 (b1 := b 54) (b2 := b 55) rfl (.inl rfl) (.inl rfl) rfl mi T (kd 54 ⟨56, "NoPerson", ["thing"]⟩ rfl) (kd 55 ⟨57, "NoRoom", ["thing"]⟩ rfl) rfl rfl (by decide) (by decide) rfl rfl)
    (pss_cons (kind2 (b1 := b 56) (b2 := b 57) rfl (.inl rfl) (.inl rfl) rfl mi T (kd 56 ⟨58, "NoSteps", []⟩ rfl) (kd 57 ⟨59, "NoTree", []⟩ rfl) rfl rfl (by decide) (by decide) rfl rfl)
    (pss_cons (kind2 (b1 := b 58) (b2 := b 59) rfl (.inl rfl) (.inl rfl) rfl mi T (kd 58 ⟨60, "NoTruth", ["thing"]⟩ rfl) (kd 59 ⟨61, "NoWalks", ["why"]⟩ rfl) rfl rfl (by decide) (by decide) rfl rfl)
    (pss_cons (kind2 (b1 := b 60) (b2 := b 61) rfl (.inl rfl) (.inl rfl) rfl mi T (kd 60 ⟨62, "NoneGoes", ["people"]⟩ rfl) (kd 61 ⟨63, "NoneLeft", []⟩ rfl) rfl rfl (by decide) (by decide) rfl rfl)
    (pss_cons (kind2 (b1 := b 62) (b2 := b 63) rfl (.inl rfl) (.inl rfl) rfl mi T (kd 62 ⟨64, "NotBeside", ["room"]⟩ rfl) (kd 63 ⟨65, "NotFull", ["room"]⟩ rfl) rfl rfl (by decide) (by decide) rfl rfl)
    (pss_cons (kind2 (b1 := b 64) (b2 := b 65) rfl (.inl rfl) (.inl rfl) rfl mi T (kd 64 ⟨66, "NotGoing", ["thing"]⟩ rfl) (kd 65 ⟨67, "NotLeaf", ["name"]⟩ rfl) rfl rfl (by decide) (by decide) rfl rfl)
    (pss_cons (kind2 (b1 := b 66) (b2 := b 67) rfl (.inl rfl) (.inl rfl) rfl mi T (kd 66 ⟨68, "NotLeft", ["thing"]⟩ rfl) (kd 67 ⟨69, "NotOneGate", []⟩ rfl) rfl rfl (by decide) (by decide) rfl rfl)
    (pss_cons (kind2 (b1 := b 68) (b2 := b 69) rfl (.inl rfl) (.inl rfl) rfl mi T (kd 68 ⟨70, "NotPlaced", ["thing"]⟩ rfl) (kd 69 ⟨71, "NotSeen", ["room"]⟩ rfl) rfl rfl (by decide) (by decide) rfl rfl)
    (pss_cons (kind2 (b1 := b 70) (b2 := b 71) rfl (.inl rfl) (.inl rfl) rfl mi T (kd 70 ⟨72, "NotShown", ["person"]⟩ rfl) (kd 71 ⟨73, "NotWatched", ["question"]⟩ rfl) rfl rfl (by decide) (by decide) rfl rfl)
    (pss_one (ps_ret (pv 1))))))))))))), ?_⟩
  refine ⟨Nat.zero_le _, fun fnd hf => ?_⟩
  have S0 : Asked H fnd [] (upd H fnd (.lst [])) := ⟨upd_same, hf, fun b o e => (upd_ne (ne_of_none e hf)).trans e⟩
  refine ⟨a, fnd, fvs, H, _, rfl, ea, S0, (by show 0 < 500; decide), fun H1 S1 => ?_⟩
  refine ⟨a, fnd, fvs, H, _, rfl, ea, S1, (by show 2 < 500; decide), fun H2 S2 => ?_⟩
  refine ⟨a, fnd, fvs, H, _, rfl, ea, S2, (by show 4 < 500; decide), fun H3 S3 => ?_⟩
  refine ⟨a, fnd, fvs, H, _, rfl, ea, S3, (by show 6 < 500; decide), fun H4 S4 => ?_⟩
  refine ⟨a, fnd, fvs, H, _, rfl, ea, S4, (by show 8 < 500; decide), fun H5 S5 => ?_⟩
  refine ⟨a, fnd, fvs, H, _, rfl, ea, S5, (by show 10 < 500; decide), fun H6 S6 => ?_⟩
  refine ⟨a, fnd, fvs, H, _, rfl, ea, S6, (by show 12 < 500; decide), fun H7 S7 => ?_⟩
  refine ⟨a, fnd, fvs, H, _, rfl, ea, S7, (by show 14 < 500; decide), fun H8 S8 => ?_⟩
  refine ⟨a, fnd, fvs, H, _, rfl, ea, S8, (by show 16 < 500; decide), fun H9 S9 => ?_⟩
  exact ⟨_, rfl, k fnd _ S9.same hf S9.lst⟩
abbrev sKinds_e : Stmt := top 98
theorem scKinds_e : FnScope ["e", "found"] ["e"] (defScope sKinds_e) := ⟨rfl, rfl, rfl, by decide +kernel, rfl, by decide +kernel, by decide +kernel⟩
theorem ok_kinds_e (F : FunD K "_law_kinds_e" "_law_kinds_e" (defArgs sKinds_e) (defBody sKinds_e) (defScope sKinds_e) [] [] f fd) (fr : Frees mg) : FnOk P w K mg base CX0 1 f fd ["e"] (spKinds K mg Ca 72 11) := by
  have mi : mg "isinstance" = none := fr "isinstance" (by decide +kernel)
  refine F.ok scKinds_e (fun vs H Q E h => ?_) (fun cdv A outer s H vs Q E hr h => ?_)
  · obtain ⟨a, C, fvs, b, rfl, _⟩ := h
    rfl
  obtain ⟨a, C, fvs, b, rfl, ea, T, kd, k⟩ := h
  refine ⟨_, PSs.nox (pss_cons (ps_set (i := 1) scKinds_e.nd rfl (.inl rfl) (pe_lst pa_nil))
    (pss_cons (kind2 (b1 := b 72) (b2 := b 73) rfl (.inl rfl) (.inl rfl) rfl mi T (kd 72 ⟨74, "Occupied", ["room"]⟩ rfl) (kd 73 ⟨75, "OtherPeople", ["person"]⟩ rfl) rfl rfl (by decide) (by decide) rfl rfl)
    (pss_cons (kind2 (b1 := b 74) (b2 := b 75) rfl (.inl rfl) (.inl rfl) rfl mi T (kd 74 ⟨76, "RoomTaken", ["name"]⟩ rfl) (kd 75 ⟨77, "SameRoom", ["room"]⟩ rfl) rfl rfl (by decide) (by decide) rfl rfl)
    (pss_cons (kind2 (b1 := b 76) (b2 := b 77) rfl (.inl rfl) (.inl rfl) rfl mi T (kd 76 ⟨78, "ShowsNobody", ["room"]⟩ rfl) (kd 77 ⟨79, "TakenPerson", ["person"]⟩ rfl) rfl rfl (by decide) (by decide) rfl rfl)
    (pss_cons (kind2 (b1 := b 78) (b2 := b 79) rfl (.inl rfl) (.inl rfl) rfl mi T (kd 78 ⟨80, "TakenRoom", ["room"]⟩ rfl) (kd 79 ⟨81, "UnlikeGates", []⟩ rfl) rfl rfl (by decide) (by decide) rfl rfl)
    (pss_cons (kind2 (b1 := b 80) (b2 := b 81) rfl (.inl rfl) (.inl rfl) rfl mi T (kd 80 ⟨82, "UnlikePeople", []⟩ rfl) (kd 81 ⟨83, "UnlikeRooms", ["room"]⟩ rfl) rfl rfl (by decide) (by decide) rfl rfl)
    (pss_cons (kind1 (b1 := b 82) rfl (.inl rfl) (.inl rfl) rfl mi T (kd 82 ⟨84, "WouldChange", ["question"]⟩ rfl) rfl (by decide) rfl rfl)
    (pss_one (ps_ret (pv 1)))))))))), ?_⟩
  refine ⟨Nat.zero_le _, fun fnd hf => ?_⟩
  have S0 : Asked H fnd [] (upd H fnd (.lst [])) := ⟨upd_same, hf, fun b o e => (upd_ne (ne_of_none e hf)).trans e⟩
  refine ⟨a, fnd, fvs, H, _, rfl, ea, S0, (by show 0 < 500; decide), fun H1 S1 => ?_⟩
  refine ⟨a, fnd, fvs, H, _, rfl, ea, S1, (by show 2 < 500; decide), fun H2 S2 => ?_⟩
  refine ⟨a, fnd, fvs, H, _, rfl, ea, S2, (by show 4 < 500; decide), fun H3 S3 => ?_⟩
  refine ⟨a, fnd, fvs, H, _, rfl, ea, S3, (by show 6 < 500; decide), fun H4 S4 => ?_⟩
  refine ⟨a, fnd, fvs, H, _, rfl, ea, S4, (by show 8 < 500; decide), fun H5 S5 => ?_⟩
  refine ⟨a, fnd, fvs, H, _, rfl, ea, S5, (by show 10 < 500; decide), fun H6 S6 => ?_⟩
  exact ⟨_, rfl, k fnd _ S6.same hf S6.lst⟩
end
end K0
end T_K0Kind
section T_K0Own
set_option Elab.async false
set_option linter.all false
set_option maxRecDepth 100000
set_option maxHeartbeats 4000000
namespace K0
open PySem PySem.Spec PyProof.Rows L2 LamX NdefX LamV ErrX
abbrev sKinds : Stmt := top 99
abbrev sOwn : Stmt := top 100
theorem scKinds : FnScope ["e"] ["e"] (defScope sKinds) := ⟨rfl, rfl, rfl, by decide +kernel, rfl, by decide +kernel, by decide +kernel⟩
theorem scOwn : FnScope ["e", "at", "k"] ["e", "at"] (defScope sOwn) := ⟨rfl, rfl, rfl, by decide +kernel, rfl, by decide +kernel, by decide +kernel⟩
/-- the defs that are called -/
structure Called (K : PySem.W.Frag) (mg : Str → Option Value) (x : Str) (st : Stmt) (f : Addr) : Prop where
  g : mg x = some (.ref f)
  F : ∃ fd, FunD K x x (defArgs st) (defBody st) (defScope st) [] [] f fd
section
variable {P : Program} {w : World} {K : PySem.W.Frag} {mg : Str → Option Value} {base : Heap} {Ca : Nat → Addr} {f fa fb fc fe ff : Addr} {fd : FuncData}
theorem one_arg {x : Str} {st : Stmt} {f : Addr} {fd : FuncData} {p : Str} (F : FunD K x x (defArgs st) (defBody st) (defScope st) [] [] f fd)
    (h : ∀ (kV doc pm : Value) (an : Option Addr) (cdv ct : Value) (us : List Value), us.length = 1 → bindArgs (PySem.W.fnOf x x (defArgs st) (defBody st) (defScope st) .none kV doc pm an cdv ct) ⟨us, []⟩ = pure ([p].zip us)) : L2.Binds K fd [p] [] := by
  obtain ⟨oc, od, dV, kV, doc, pm, an, cdv, ct, osl, rfl, lk, hc, hD, hK⟩ := F.ex
  have e : dV = .none := hD.elim (fun h => h.2) fun h => absurd rfl h.1
  subst e
  exact .all fun us hl => h kV doc pm an cdv ct us hl
theorem all_kinds (b : Nat → Bool) : ((((List.range' 0 18).map fun j => V.bl (b j)) ++ ((List.range' 18 18).map fun j => V.bl (b j))) ++ ((List.range' 36 18).map fun j => V.bl (b j)) ++ ((List.range' 54 18).map fun j => V.bl (b j)) ++ ((List.range' 72 11).map fun j => V.bl (b j))) = (List.range' 0 83).map fun j => V.bl (b j) := rfl
theorem ok_kinds (F : FunD K "_law_kinds" "_law_kinds" (defArgs sKinds) (defBody sKinds) (defScope sKinds) [] [] f fd) (fr : Frees mg)
    (A : Called K mg "_law_kinds_a" sKinds_a fa) (B : Called K mg "_law_kinds_b" sKinds_b fb) (C : Called K mg "_law_kinds_c" sKinds_c fc) (D : Called K mg "_law_kinds_d" sKinds_d fe) (E' : Called K mg "_law_kinds_e" sKinds_e ff) :
    FnOk P w K mg base CX0 2 f fd ["e"] (spKinds K mg Ca 0 83) := by
  obtain ⟨gA, fdA, FA⟩ := A
  obtain ⟨gB, fdB, FB⟩ := B
  obtain ⟨gC, fdC, FC⟩ := C
  obtain ⟨gD, fdD, FD⟩ := D
  obtain ⟨gE, fdE, FE⟩ := E'
  have GA : FnOk P w K mg base CX0 1 fa fdA ["e"] (spKinds K mg Ca 0 18) := ok_kinds_a FA fr
  have GB : FnOk P w K mg base CX0 1 fb fdB ["e"] (spKinds K mg Ca 18 18) := ok_kinds_b FB fr
  have GC : FnOk P w K mg base CX0 1 fc fdC ["e"] (spKinds K mg Ca 36 18) := ok_kinds_c FC fr
  have GD : FnOk P w K mg base CX0 1 fe fdD ["e"] (spKinds K mg Ca 54 18) := ok_kinds_d FD fr
  have GE : FnOk P w K mg base CX0 1 ff fdE ["e"] (spKinds K mg Ca 72 11) := ok_kinds_e FE fr
  have bA : L2.Binds K fdA ["e"] [] := one_arg FA fun _ _ _ _ _ _ us hl => match us, hl with | [_], _ => rfl
  have bB : L2.Binds K fdB ["e"] [] := one_arg FB fun _ _ _ _ _ _ us hl => match us, hl with | [_], _ => rfl
  have bC : L2.Binds K fdC ["e"] [] := one_arg FC fun _ _ _ _ _ _ us hl => match us, hl with | [_], _ => rfl
  have bD : L2.Binds K fdD ["e"] [] := one_arg FD fun _ _ _ _ _ _ us hl => match us, hl with | [_], _ => rfl
  have bE : L2.Binds K fdE ["e"] [] := one_arg FE fun _ _ _ _ _ _ us hl => match us, hl with | [_], _ => rfl
  refine F.ok scKinds (fun vs H Q E h => ?_) (fun cdv A outer s H vs Q E hr h => ?_)
  · obtain ⟨a, C, fvs, b, rfl, _⟩ := h
    rfl
  obtain ⟨a, C, fvs, b, rfl, ea, T, kd, k⟩ := h
  refine ⟨_, PSs.nox (pss_one (ps_ret (pe_op op_cat (pe_op op_cat (pe_op op_cat (pe_op op_cat (pe_call GA hr (by rfl) gA FA.kp bA .nil pass0 (pa_cons (pv 0) pa_nil)) (pe_call GB hr (by rfl) gB FB.kp bB .nil pass0 (pa_cons (pv 0) pa_nil)))
    (pe_call GC hr (by rfl) gC FC.kp bC .nil pass0 (pa_cons (pv 0) pa_nil))) (pe_call GD hr (by rfl) gD FD.kp bD .nil pass0 (pa_cons (pv 0) pa_nil))) (pe_call GE hr (by rfl) gE FE.kp bE .nil pass0 (pa_cons (pv 0) pa_nil))))), ?_⟩
  have on : ∀ {H1 H2 : Hp}, ErrAt H1 a C fvs → Same H1 H2 → ErrAt H2 a C fvs := fun e s => e.on fun b φ q => s _ _ q
  have put : ∀ {H1 : Hp} {p : Addr} {xs : List V}, H1 p = none → Same H1 (upd H1 p (.lst xs)) := fun h b o e => (upd_ne (ne_of_none e h)).trans e
  have small : ∀ {xs : List V}, xs.length ≤ 100 → xs.length ≤ sizeLine := fun h => Nat.le_of_lt (small1000 (by omega))
  refine ⟨.ref a, rfl, a, C, fvs, b, rfl, ea, T, kd, fun qa H1 s1 n1 a1 => ?_⟩
  refine ⟨.ref a, rfl, a, C, fvs, b, rfl, on ea s1, T, kd, fun qb H2 s2 n2 a2 => ?_⟩
  refine ⟨qa, qb, _, _, rfl, rfl, s2 _ _ a1, a2, Nat.le_of_lt (small1000 (by simp)), fun p1 m1 => ?_⟩
  have t1 := (s1.trans s2).trans (put (xs := ((List.range' 0 18).map fun j => V.bl (b j)) ++ ((List.range' 18 18).map fun j => V.bl (b j))) m1)
  refine ⟨.ref a, rfl, a, C, fvs, b, rfl, on ea t1, T, kd, fun qc H3 s3 n3 a3 => ?_⟩
  refine ⟨p1, qc, _, _, rfl, rfl, s3 _ _ upd_same, a3, Nat.le_of_lt (small1000 (by simp)), fun p2 m2 => ?_⟩
  have t2 := (t1.trans s3).trans (put (xs := (((List.range' 0 18).map fun j => V.bl (b j)) ++ ((List.range' 18 18).map fun j => V.bl (b j))) ++ ((List.range' 36 18).map fun j => V.bl (b j))) m2)
  refine ⟨.ref a, rfl, a, C, fvs, b, rfl, on ea t2, T, kd, fun qd H4 s4 n4 a4 => ?_⟩
  refine ⟨p2, qd, _, _, rfl, rfl, s4 _ _ upd_same, a4, Nat.le_of_lt (small1000 (by simp)), fun p3 m3 => ?_⟩
  have t3 := (t2.trans s4).trans (put (xs := ((((List.range' 0 18).map fun j => V.bl (b j)) ++ ((List.range' 18 18).map fun j => V.bl (b j))) ++ ((List.range' 36 18).map fun j => V.bl (b j))) ++ ((List.range' 54 18).map fun j => V.bl (b j))) m3)
  refine ⟨.ref a, rfl, a, C, fvs, b, rfl, on ea t3, T, kd, fun qe H5 s5 n5 a5 => ?_⟩
  refine ⟨p3, qe, _, _, rfl, rfl, s5 _ _ upd_same, a5, Nat.le_of_lt (small1000 (by simp)), fun p4 m4 => ?_⟩
  rw [all_kinds b]
  exact k p4 _ ((t3.trans s5).trans (put m4)) ((t3.trans s5).free m4) upd_same
end
end K0
end T_K0Own
section T_K0Own2
set_option Elab.async false
set_option linter.all false
set_option maxRecDepth 100000
set_option maxHeartbeats 4000000
namespace K0
open PySem PySem.Spec PyProof.Rows L2 LamX NdefX LamV ErrX
/-- what is asked of the class at C besides its place -/
structure OwnC (K : PySem.W.Frag) (mg : Str → Option Value) (C : Addr) : Prop where
  face : ∃ D, mg "FaceError" = some (.ref D) ∧ PySem.W.kitOne K (.ref C) (.ref D) = some true
  val : PySem.W.kitOne K (.ref C) (.type "ValueError") = some true
  look : PySem.W.kitOne K (.ref C) (.type "LookupError") = some false
def spOwn (K : PySem.W.Frag) (mg : Str → Option Value) (Ca : Nat → Addr) : Sp := fun vs H Q _ => ∃ (a C : Addr) (fvs : List (Str × V)) (b : Nat → Bool) (n : Nat), vs = [.ref a, .int n] ∧ ErrAt H a C fvs ∧ ErrC K C ∧ Kinds K mg Ca C b ∧ OwnC K mg C ∧ (∀ j, j < 83 → b j = decide (j = n)) ∧
  ∀ H', Same H H' → Q (.bl true) H'
theorem boot_valueE : bootBuiltins "ValueError" = some (.type "ValueError") := by decide +kernel
theorem boot_lookE : bootBuiltins "LookupError" = some (.type "LookupError") := by decide +kernel
theorem dp_bools {K : PySem.W.Frag} {H : Hp} : ∀ bs : List Bool, DpAll K H (bs.map V.bl) (bs.map PyData.bool)
  | [] => .nil
  | b :: bs => .cons (.bl b) (dp_bools bs)
theorem eqv_bools : ∀ bs : List Bool, PyData.eqvAll (bs.map PyData.bool) (bs.map PyData.bool) = true
  | [] => rfl
  | b :: bs => by
    show (PyData.eqv (.bool b) (.bool b) && PyData.eqvAll (bs.map PyData.bool) (bs.map PyData.bool)) = true
    rw [eqv_bools bs]
    cases b <;> rfl
theorem bools_lay : ∀ bs : List Bool, PyData.canLayAll0 (bs.map PyData.bool) = true
  | [] => rfl
  | _ :: bs => bools_lay bs
theorem bools_depth : ∀ bs : List Bool, PyData.depthAll (bs.map PyData.bool) = 0
  | [] => rfl
  | _ :: bs => by
    show max 0 (PyData.depthAll (bs.map PyData.bool)) = 0
    rw [bools_depth bs]
    rfl
theorem shaped_bools (bs : List Bool) : SeqAt.shaped (.list (bs.map PyData.bool)) = true := by
  have a : PyData.canLay0 (.list (bs.map PyData.bool)) = true := bools_lay bs
  have b : PyData.depth (.list (bs.map PyData.bool)) = 1 := congrArg (· + 1) (bools_depth bs)
  unfold SeqAt.shaped
  rw [a, b]
  rfl
section
variable {P : Program} {w : World} {K : PySem.W.Frag} {mg : Str → Option Value} {base : Heap} {Ca : Nat → Addr} {f fk : Addr} {fd fdk : FuncData}
theorem ok_own (F : FunD K "_law_is_own" "_law_is_own" (defArgs sOwn) (defBody sOwn) (defScope sOwn) [] [] f fd) (fr : Frees mg)
    (G : FnOk P w K mg base CX0 2 fk fdk ["e"] (spKinds K mg Ca 0 83)) (gK : mg "_law_kinds" = some (.ref fk)) (FK : FunD K "_law_kinds" "_law_kinds" (defArgs sKinds) (defBody sKinds) (defScope sKinds) [] [] fk fdk) (bK : L2.Binds K fdk ["e"] []) :
    FnOk P w K mg base CX0 3 f fd ["e", "at"] (spOwn K mg Ca) := by
  have mi : mg "isinstance" = none := fr "isinstance" (by decide +kernel)
  have mr : mg "range" = none := fr "range" (by decide +kernel)
  have mv : mg "ValueError" = none := fr "ValueError" (by decide +kernel)
  have ml : mg "LookupError" = none := fr "LookupError" (by decide +kernel)
  refine F.ok scOwn (fun vs H Q E h => ?_) (fun cdv A outer s H vs Q E hr h => ?_)
  · obtain ⟨a, C, fvs, b, n, rfl, _⟩ := h
    rfl
  obtain ⟨a, C, fvs, b, n, rfl, ea, T, kd, ⟨⟨D, gD, kF⟩, kV, kL⟩, hb, k⟩ := h
  refine' ⟨_, PSs.nox (pss_cons (ps_if (PW.pt (pw_or (pt_not (pt_val (pe_callB call_isX (by rfl) mi (by decide +kernel) (pa_cons (pv 0) (pa_cons (pe_glob (v := .ref D) (by rfl) gD rfl) pa_nil)))))
    (pw_or (pt_not (pt_val (pe_callB call_isX (by rfl) mi (by decide +kernel) (pa_cons (pv 0) (pa_cons (pe_bltn (v := .ty "ValueError") (by rfl) mv boot_valueE rfl) pa_nil)))))
      (pw_or1 (pt_val (pe_callB call_isX (by rfl) mi (by decide +kernel) (pa_cons (pv 0) (pa_cons (pe_bltn (v := .ty "LookupError") (by rfl) ml boot_lookE rfl) pa_nil)))))))) (pss_one (ps_ret pe_bl)) pss_nil)
    (pss_one (ps_ret (pe_cmpR (op_eqD hr.units) (pe_call G (hr.mono (by decide)) (by rfl) gK FK.kp bK .nil pass0 (pa_cons (pv 0) pa_nil)) ?comp (nomark _))))), ?rest⟩
  case comp =>
    refine' pe_lc (own := [("k", 2)]) (g := gName 2) (tt := tYes) (te := tOp rEq (tVar 2) (tVar 1)) rfl scOwn.nd (pi_range1 (by rfl) mr (pa_cons pe_int pa_nil))
      (blkOk_by (own := [("k", 2)]) (N := ["e", "at", "k"]) (sc := defScope sOwn) (by decide +kernel)) (fun _ _ _ _ _ => pg_name (i := 2) scOwn.nd rfl (Or.inl rfl)) (fun _ _ _ _ _ => pts_nil) ?he
    case he =>
      intro s' H' C' cl' fp'
      exact pe_cmpR op_eq (pv 2) (pv 1) (nomark _)
  refine ⟨.ref a, rfl, a, C, fvs, .ref D, .ref D, true, rfl, ea, T, fun u h => h, kF, true, rfl, ?_⟩
  refine iteF ?_
  refine ⟨.ref a, rfl, a, C, fvs, .ty "ValueError", .type "ValueError", true, rfl, ea, T, fun u h => h, kV, true, rfl, ?_⟩
  refine iteF ?_
  refine ⟨.ref a, rfl, a, C, fvs, .ty "LookupError", .type "LookupError", false, rfl, ea, T, fun u h => h, kL, false, rfl, ?_⟩
  refine iteF ?_
  refine ⟨.ref a, rfl, a, C, fvs, b, rfl, ea, T, kd, fun q H1 s1 n1 a1 => ?_⟩
  refine ⟨_, rfl, by decide, by decide, fun D2 hD => ?_⟩
  have qD : q ≠ D2 := ne_of_none a1 hD
  refine lc_range (lo := 0) (n := 83) (fun i H' => ∃ acc : List V, H' D2 = some (.lst acc) ∧ acc = (List.range' 0 i).map (fun j => V.bl (decide (j = n))) ∧ i ≤ 83 ∧ H' q = some (.lst ((List.range' 0 83).map fun j => V.bl (b j))) ∧ ∀ c o, H1 c = some o → H' c = some o) ?_ ?_ ?_
  · exact ⟨[], upd_same, rfl, by decide, (upd_ne qD).trans a1, fun c o e => (upd_ne (ne_of_none e hD)).trans e⟩
  · rintro i H2 hi ⟨acc, hacc, rfl, _, hq, kp⟩
    refine ⟨rfl, ?_⟩
    unfold tYes
    refine iteT ?_
    refine ⟨_, rfl, _, rfl, rfl, _, hacc, by simp only [List.length_map, List.length_range']; exact Nat.lt_trans hi (small1000 (by omega)), _, upd_same, ?_, hi, (upd_ne qD).trans hq, fun c o e => (upd_ne (ne_of_none e hD)).trans (kp c o e)⟩
    rw [List.range'_concat, List.map_append]
    have e : decide (V.int (0 + (i : Int)) = V.int (n : Int)) = decide (0 + 1 * i = n) := by
      rw [Bool.eq_iff_iff]
      simp only [decide_eq_true_eq, V.int.injEq]
      omega
    rw [e]
    rfl
  · rintro H2 ⟨acc, hacc, rfl, _, hq, kp⟩
    have same : (List.range' 0 83).map (fun j => V.bl (b j)) = (List.range' 0 83).map (fun j => V.bl (decide (j = n))) := List.map_congr_left fun j hj => by
      have : j < 83 := by
        have := List.mem_range'.mp hj
        omega
      rw [hb j this]
    rw [same] at hq
    have lst : ∀ {z : Addr} {H : Hp}, H z = some (.lst ((List.range' 0 83).map fun j => V.bl (decide (j = n)))) → Dp K H (.ref z) (.list (((List.range' 0 83).map fun j => decide (j = n)).map PyData.bool)) := fun {z H} e => by
      refine .lst (SqL.of e) ?_
      have m : ((List.range' 0 83).map fun j => V.bl (decide (j = n))) = (((List.range' 0 83).map fun j => decide (j = n)).map V.bl) := by rw [List.map_map] <;> rfl
      rw [m]
      exact dp_bools _
    have sh : ∀ bs : List Bool, SeqAt.shaped (.list (bs.map PyData.bool)) = true := fun bs => shaped_bools bs
    refine ⟨_, _, lst hq, lst hacc, sh _, sh _, ?_⟩
    rw [show PyData.eqv (.list (((List.range' 0 83).map fun j => decide (j = n)).map PyData.bool)) (.list (((List.range' 0 83).map fun j => decide (j = n)).map PyData.bool)) = true from eqv_bools _]
    exact k H2 fun c o e => kp c o (s1 c o e)
end
end K0
end T_K0Own2
section T_GuardR
set_option Elab.async false
set_option linter.all false
set_option maxRecDepth 100000
set_option maxHeartbeats 4000000
/-! A def's promise where no guard is open; data that is tracked, its repr. -/
namespace GuX
open PySem PySem.Spec PyProof.Rows L2 LamX
/-- as FnOk, but only asked where no guard is open -/
structure FnG (P : Program) (w : World) (K : PySem.W.Frag) (mg : Str → Option Value) (base : Heap) (CX : CXT) (k : Nat) (f : Addr) (fd : FuncData) (ps : List Str) (sp : Sp) : Prop where
  many : ∀ vs H Q E, sp vs H Q E → vs.length = ps.length
  go : ∀ (A : Around) (outer : List Env) (s : Shared) (H : Hp) (args : Args) (us : List Value) (vs : List V) (Q : VK) (E : XK), A.guards = some [] → Room k A → Env0 P w K mg base A outer s H → BindsTo s fd args (ps.zip us) → Vals vs us → sp vs H Q E →
    codeAny (model P w) A (.call (.ref f) args) (CR CX outer P w H s Q E) s
section
variable {P : Program} {w : World} {K : PySem.W.Frag} {mg : Str → Option Value} {base : Heap} {x qual : Str} {params : Arguments} {body : List Stmt} {scope : Scope} {dvs : List V} {kws : List (Str × V)} {f : Addr} {fd : FuncData}
theorem FnG.of {CX : CXT} {N ps : List Str} {k : Nat} {sp : Sp} (F : FunD K x qual params body scope dvs kws f fd) (S : FnScope N ps scope) (len : ∀ vs H Q E, sp vs H Q E → vs.length = ps.length)
    (hb : ∀ (cdv : Value) (A : Around) (outer : List Env) (s : Shared) (H : Hp) (vs : List V) (Q : VK) (E : XK), A.guards = some [] → Room k (A.deeper (envOfC qual scope s.heap.objs.size f cdv)) → sp vs H Q E →
      ∃ t, PSs (cxOf CX P w K mg base N qual scope f cdv A outer s H E) body t ∧ t { nx := fun _ H' => Q .non H', rt := Q } (L2.start N vs) H) : FnG P w K mg base CX (k + 1) f fd ps sp := by
  obtain ⟨oc, od, dV, kV, doc, pm, an, cdv, ct, osl, rfl, lk, hcd, _, _⟩ := F.ex
  exact ⟨len, fun A outer s H args us vs Q E g hr e0 b r h => run_ofS lk hcd S hr e0 b r (len _ _ _ _ h) fun hr' => hb cdv A outer s H vs Q E g hr' h⟩
variable {X : Cx} {CX : CXT} {k : Nat} {ps : List Str} {sp : Sp} {ds : List Value} {ws : List V} {E : XK} {p pos : Pos} {e : Expr} {es : List Expr} {t : TA}
theorem callG {pins : List (Addr × Obj)} {σ : L2.St} {H : Hp} {s : Shared} {Q : VK} {us : List Value} {vs : List V} (F : FnG X.prog X.w X.K X.mg X.base CX k f fd ps sp) (g : X.A.guards = some []) (hr : Room k X.A) (hb : L2.Binds X.K fd ps ds) (hd : Vals ws ds)
    (hx : Passes CX X E) (I : Inv X pins σ H s) (r : Vals vs us) (h : sp (vs ++ ws) H Q E) : wpAny (model X.prog X.w) X.A (call (.ref f) us) (EP X pins σ Q) X.xe s := by
  have z : Vals (vs ++ ws) (us ++ ds) := r.append hd
  have many : (us ++ ds).length = ps.length := z.length.symm.trans (F.many _ _ _ _ h)
  refine wpAny_call (codeAny_mono (F.go X.A X.stack s H ⟨us, []⟩ _ _ Q E g hr I.env0 (hb s us I.kIn many) z h) ?_)
  intro res s' q
  match res, q with
  | .error _, q => exact hx pins σ H s _ s' I q
  | .ok (.ret _), q => exact I.after q
  | .ok .next, q => exact q.elim
  | .ok .brk, q => exact q.elim
  | .ok .cont, q => exact q.elim
theorem pe_callG (F : FnG X.prog X.w X.K X.mg X.base CX k f fd ps sp) (g : X.A.guards = some []) (hr : Room k X.A) (hg : Gl X x) (hm : X.mg x = some (.ref f)) (kp : PySem.W.keepIn X.K (.ref f) = true) (hb : L2.Binds X.K fd ps ds) (hd : Vals ws ds)
    (hx : Passes CX X E) (ha : PA X (e :: es) t) (nd : (x == ("__debug__" : Str)) = false := by decide) (se : starEach (e :: es) X.env = (false, eval e X.env) :: starEach es X.env := by rfl)
    (pl : (backTo pos (starEach es X.env)).any (·.1) = false := by rfl) : PE X (.Call (.Name x p) (e :: es) [] pos) (tCall sp ws E t) :=
  ⟨fun pins s σ H Q I h => wpAny_Call_Name_kw (ld_glob I hg hm (PySem.W.callWith_K (h₀ := X.base) I.ok.mod.kin kp (thn (ha.run pos pins s σ H _ I h) fun us s1 ⟨vs, H1, I1, r, q⟩ => ⟨I1.kIn, callG F g hr hb hd hx I1 r q⟩) se pl) nd)⟩
end
/-! ### data -/
mutual
inductive Dq (H : Hp) : V → PyData → Prop
  | non : Dq H .non .none
  | bl (b : Bool) : Dq H (.bl b) (.bool b)
  | int (i : Int) : Dq H (.int i) (.int i)
  | str (x : Str) : Dq H (.str x) (.str x)
  | lst {a : Addr} {xs : List V} {ds : List PyData} : H a = some (.lst xs) → DqAll H xs ds → Dq H (.ref a) (.list ds)
  | tup {a : Addr} {xs : List V} {ds : List PyData} : H a = some (.tup xs) → DqAll H xs ds → Dq H (.ref a) (.tuple ds)
  | dct {a : Addr} {x : Str} {v : V} {d : PyData} : H a = some (.dK [(.inr x, v)]) → Dq H v d → Dq H (.ref a) (.dict [(.str x, d)])
inductive DqAll (H : Hp) : List V → List PyData → Prop
  | nil : DqAll H [] []
  | cons {v : V} {vs : List V} {d : PyData} {ds : List PyData} : Dq H v d → DqAll H vs ds → DqAll H (v :: vs) (d :: ds)
end
mutual
theorem Dq.on {H H' : Hp} (k : ExtN H H') : ∀ (d : PyData) (v : V), Dq H v d → Dq H' v d
  | .none, _, h => by cases h; exact .non
  | .bool b, _, h => by cases h; exact .bl b
  | .int i, _, h => by cases h; exact .int i
  | .str x, _, h => by cases h; exact .str x
  | .list ds, _, h => by
    cases h with
    | lst e a => exact .lst (k _ _ e fun _ z => nomatch z) (DqAll.on k ds _ a)
  | .tuple ds, _, h => by
    cases h with
    | tup e a => exact .tup (k _ _ e fun _ z => nomatch z) (DqAll.on k ds _ a)
  | .dict [(.str x, d)], _, h => by
    cases h with
    | dct e a => exact .dct (k _ _ e fun _ z => nomatch z) (Dq.on k d _ a)
  | .dict [], _, h => by cases h
  | .dict ((.none, _) :: _), _, h => by cases h
  | .dict ((.bool _, _) :: _), _, h => by cases h
  | .dict ((.int _, _) :: _), _, h => by cases h
  | .dict ((.list _, _) :: _), _, h => by cases h
  | .dict ((.tuple _, _) :: _), _, h => by cases h
  | .dict ((.dict _, _) :: _), _, h => by cases h
  | .dict ((.str _, _) :: _ :: _), _, h => by cases h
theorem DqAll.on {H H' : Hp} (k : ExtN H H') : ∀ (ds : List PyData) (vs : List V), DqAll H vs ds → DqAll H' vs ds
  | [], _, h => by cases h; exact .nil
  | d :: ds, _, h => by
    cases h with
    | cons a b => exact .cons (Dq.on k d _ a) (DqAll.on k ds _ b)
end
section
variable {X : Cx} {pins : List (Addr × Obj)} {σ : L2.St} {H : Hp} {s : Shared}
/-- sys.modules stands in the written part -/
theorem noSys (I : Inv X pins σ H s) {o : Obj} (e : X.K.lookup sysModules = some o) {a : Addr} {u : HO} (h : H a = some u) : sysModules ≠ a := fun z => by
  have q := (I.bs _ _ (I.ok.mod.kin _ _ e)).2
  rw [z, h] at q
  cases q
mutual
theorem Dq.reads (I : Inv X pins σ H s) {o : Obj} (e : X.K.lookup sysModules = some o) : ∀ (d : PyData) (v : V) (u : Value), Dq H v d → RelV v u → ∃ as, Reads s.heap u d as ∧ sysModules ∉ as
  | .none, _, _, h, r => by
    cases h
    cases r
    exact ⟨_, .none, by simp⟩
  | .bool b, _, _, h, r => by
    cases h
    cases r
    exact ⟨_, .bool b, by simp⟩
  | .int i, _, _, h, r => by
    cases h
    obtain ⟨t, rfl⟩ := r
    exact ⟨_, .int i t, by simp⟩
  | .str x, _, _, h, r => by
    cases h
    obtain ⟨t, rfl⟩ := r
    exact ⟨_, .str x t, by simp⟩
  | .list ds, _, _, h, r => by
    cases h with
    | lst ha hx =>
      cases r
      obtain ⟨_, its, n, rv, hg⟩ := (show ObjOk X.prog X.w H s.heap _ (.lst _) from I.hok _ _ ha)
      obtain ⟨as, q, nq⟩ := DqAll.reads I e ds _ its hx rv
      refine ⟨_, .list hg rfl rfl q, fun m => ?_⟩
      rcases List.mem_cons.mp m with m | m
      · exact noSys I e ha m
      · exact nq m
  | .tuple ds, _, _, h, r => by
    cases h with
    | tup ha hx =>
      cases r
      obtain ⟨_, its, rv, ob, hg, hc, n, hd⟩ := (show ObjOk X.prog X.w H s.heap _ (.tup _) from I.hok _ _ ha)
      obtain ⟨as, q, nq⟩ := DqAll.reads I e ds _ its hx rv
      exact ⟨_, .tuple hg hc hd q, nq⟩
  | .dict [(.str x, d)], _, _, h, r => by
    cases h with
    | dct ha hx =>
      cases r
      obtain ⟨_, _, vs, rk, ob, es, ep, hg, hc, hd, _, hp, _⟩ := (show ObjOk X.prog X.w H s.heap _ (.dK _) from I.hok _ _ ha)
      cases rk with
      | @cons _ pr _ _ h1 h2 =>
        cases h2
        obtain ⟨kk, vv⟩ := pr
        obtain ⟨es0⟩ := es
        cases hp with
        | @cons en _ _ _ k1 k2 k3 =>
          cases k3
          obtain ⟨i, t, e1, e2⟩ | ⟨x', t, e1, e2⟩ := keyIs_shape k1
          · exact absurd (h1.1.trans e1) (fun z => nomatch z)
          · obtain rfl : x = x' := Sum.inr.inj (h1.1.trans e1)
            obtain ⟨as, q, nq⟩ := Dq.reads I e d _ vv hx h1.2
            refine ⟨_, .dict hg hc.1 hd (as := []) (bs := as ++ []) (kvs := [(.str x, d)]) ?_ ?_, ?_⟩
            · show ReadsAll s.heap [en.key] [.str x] ([] ++ [])
              rw [e2]
              exact .cons (.str x t) .nil
            · show ReadsAll s.heap [en.val] [d] (as ++ [])
              have k4 : en.val = vv := k2
              rw [k4]
              exact .cons q .nil
            · intro m
              simp only [List.append_nil, List.cons_append, List.nil_append] at m
              rcases List.mem_cons.mp m with m | m
              · exact noSys I e ha m
              · exact nq m
  | .dict [], _, _, h, _ => by cases h
  | .dict ((.none, _) :: _), _, _, h, _ => by cases h
  | .dict ((.bool _, _) :: _), _, _, h, _ => by cases h
  | .dict ((.int _, _) :: _), _, _, h, _ => by cases h
  | .dict ((.list _, _) :: _), _, _, h, _ => by cases h
  | .dict ((.tuple _, _) :: _), _, _, h, _ => by cases h
  | .dict ((.dict _, _) :: _), _, _, h, _ => by cases h
  | .dict ((.str _, _) :: _ :: _), _, _, h, _ => by cases h
theorem DqAll.reads (I : Inv X pins σ H s) {o : Obj} (e : X.K.lookup sysModules = some o) : ∀ (ds : List PyData) (vs : List V) (us : List Value), DqAll H vs ds → Vals vs us → ∃ as, ReadsAll s.heap us ds as ∧ sysModules ∉ as
  | [], _, _, h, r => by
    cases h
    cases r
    exact ⟨_, .nil, by simp⟩
  | d :: ds, _, _, h, r => by
    cases h with
    | cons h1 h2 =>
      cases r with
      | cons r1 r2 =>
        obtain ⟨as, q1, n1⟩ := Dq.reads I e d _ _ h1 r1
        obtain ⟨bs, q2, n2⟩ := DqAll.reads I e ds _ _ h2 r2
        exact ⟨_, .cons q1 q2, fun m => (List.mem_append.mp m).elim n1 n2⟩
end
/-- repr(e), e tracked data -/
def rRepr : List V → Hp → VK → Prop := fun xs H Q => ∃ (a : Addr) (d : PyData), xs = [.ref a] ∧ Dq H (.ref a) d ∧ d.showable = true ∧ d.depth ≤ 60 ∧ d.shown.length ≤ 1000 ∧ Q (.str d.shown) H
theorem call_repr (g : X.A.guards = some []) (hu : X.A.units + 64 < cLine) {o : Obj} (e : X.K.lookup sysModules = some o) : CallR X (.builtin "repr") rRepr := by
  intro pins s σ H xs us Q I r h
  obtain ⟨a, d, rfl, hd, hs, dp, sz, q⟩ := h
  obtain ⟨u, rfl, ru⟩ := vals1 r
  cases ru
  obtain ⟨as, hr, ns⟩ := Dq.reads I e d _ _ hd rfl
  exact repr_of_reads' hr hs (fun _ => ns) g (by omega) (fun _ _ z => z) (fun h' u tk k => ⟨.str d.shown, H, I.kept k, ⟨_, rfl⟩, q⟩) (Nat.le_of_lt (small1000 (by omega)))
end
end GuX
end T_GuardR
section T_K0These
set_option Elab.async false
set_option linter.all false
set_option maxRecDepth 100000
set_option maxHeartbeats 4000000
namespace K0
open PySem PySem.Spec PyProof.Rows L2 LamX NdefX LamV ErrX GuX
abbrev sThese : Stmt := top 101
theorem scThese : FnScope ["found", "due"] ["found", "due"] (defScope sThese) := ⟨rfl, rfl, rfl, by decide +kernel, rfl, by decide +kernel, by decide +kernel⟩
/-- data that may be shown -/
structure Shows (d : PyData) : Prop where
  s : d.showable = true
  dp : d.depth ≤ 60
  sz : d.shown.length ≤ 1000
def spThese : Sp := fun vs H Q _ => ∃ (p q : Addr) (xs ys : List V) (ds : List PyData), vs = [.ref p, .ref q] ∧ H p = some (.lst xs) ∧ H q = some (.lst ys) ∧ DqAll H xs ds ∧ DqAll H ys ds ∧ Shows (.list ds) ∧ Q (.bl true) H
theorem dqAll_len {H : Hp} : ∀ {xs : List V} {ds : List PyData}, DqAll H xs ds → xs.length = ds.length
  | [], _, h => by cases h; rfl
  | _ :: _, _, h => by
    cases h with
    | cons _ t => exact congrArg (· + 1) (dqAll_len t)
section
variable {P : Program} {w : World} {K : PySem.W.Frag} {mg : Str → Option Value} {base : Heap} {f : Addr} {fd : FuncData}
theorem ok_these (F : FunD K "_law_are_these" "_law_are_these" (defArgs sThese) (defBody sThese) (defScope sThese) [] [] f fd) (fr : Frees mg) {o : Obj} (sys : K.lookup sysModules = some o) :
    FnG P w K mg base CX0 1 f fd ["found", "due"] spThese := by
  have mr : mg "repr" = none := fr "repr" (by decide +kernel)
  have mn : mg "len" = none := fr "len" (by decide +kernel)
  refine FnG.of F scThese (fun vs H Q E h => ?_) (fun cdv A outer s H vs Q E g hr h => ?_)
  · obtain ⟨p, q, xs, ys, ds, rfl, _⟩ := h
    rfl
  obtain ⟨p, q, xs, ys, ds, rfl, hp, hq, dx, dy, ⟨s1, s2, s3⟩, k⟩ := h
  refine ⟨_, PSs.nox (pss_one (ps_ret (pe_and (pe_cmpR op_eq (pe_callB (call_repr g hr.units sys) (by rfl) mr PyProof.Rows.boot_repr (pa_cons (pv 0) pa_nil)) (pe_callB (call_repr g hr.units sys) (by rfl) mr PyProof.Rows.boot_repr (pa_cons (pv 1) pa_nil)) (nomark _))
    (pe_one (pe_cmpR op_eq (pe_callB call_len_seq (by rfl) mn PySem.boot_len (pa_cons (pv 0) pa_nil)) (pe_callB call_len_seq (by rfl) mn PySem.boot_len (pa_cons (pv 1) pa_nil)) (nomark _)))))), ?_⟩
  refine ⟨.ref p, rfl, p, .list ds, rfl, .lst hp dx, s1, s2, s3, .ref q, rfl, q, .list ds, rfl, .lst hq dy, s1, s2, s3, rfl, true, ?_, ?_⟩
  · simp
  refine iteT ?_
  refine ⟨.ref p, rfl, p, xs, rfl, .inl (SqL.of hp), .ref q, rfl, q, ys, rfl, .inl (SqL.of hq), rfl, ?_⟩
  have e : xs.length = ys.length := (dqAll_len dx).trans (dqAll_len dy).symm
  rw [show decide (V.int (xs.length : Int) = V.int (ys.length : Int)) = true by rw [e]; simp]
  exact k
end
end K0
end T_K0These
section T_K0Law
set_option Elab.async false
set_option linter.all false
set_option maxRecDepth 100000
set_option maxHeartbeats 4000000
namespace K0
open PySem PySem.Spec PyProof.Rows L2 LamX NdefX LamV ErrX GuX
abbrev sLaw : Stmt := top 102
abbrev lawN : List Str := ["script", "stream", "some", "turn", "x", "y", "z", "made", "at", "mine", "twin", "field", "due", "held", "base"]
theorem scLaw : FnScope lawN ["script"] (defScope sLaw) := ⟨rfl, rfl, rfl, by decide +kernel, rfl, by decide +kernel, by decide +kernel⟩
/-- a def that is called, with its promise -/
structure Callee (P : Program) (w : World) (K : PySem.W.Frag) (mg : Str → Option Value) (base : Heap) (k : Nat) (x : Str) (f : Addr) (fd : FuncData) (ps : List Str) (sp : Sp) : Prop where
  G : FnOk P w K mg base CX0 k f fd ps sp
  g : mg x = some (.ref f)
  kp : PySem.W.keepIn K (.ref f) = true
  b : L2.Binds K fd ps []
structure CalleeG (P : Program) (w : World) (K : PySem.W.Frag) (mg : Str → Option Value) (base : Heap) (k : Nat) (x : Str) (f : Addr) (fd : FuncData) (ps : List Str) (sp : Sp) : Prop where
  G : FnG P w K mg base CX0 k f fd ps sp
  g : mg x = some (.ref f)
  kp : PySem.W.keepIn K (.ref f) = true
  b : L2.Binds K fd ps []
section
variable {X : Cx} {k : Nat} {x : Str} {f : Addr} {fd : FuncData} {ps : List Str} {sp : Sp} {p pos : Pos} {e : Expr} {es : List Expr} {t : TA}
theorem Callee.pe (c : Callee X.prog X.w X.K X.mg X.base k x f fd ps sp) (hr : Room k X.A) (hg : Gl X x) (ha : PA X (e :: es) t)
    (nd : (x == ("__debug__" : Str)) = false := by decide) (se : starEach (e :: es) X.env = (false, eval e X.env) :: starEach es X.env := by rfl)
    (pl : (backTo pos (starEach es X.env)).any (·.1) = false := by rfl) : PE X (.Call (.Name x p) (e :: es) [] pos) (tCall sp [] E0 t) :=
  pe_call c.G hr hg c.g c.kp c.b .nil pass0 ha nd se pl
theorem CalleeG.pe (c : CalleeG X.prog X.w X.K X.mg X.base k x f fd ps sp) (g : X.A.guards = some []) (hr : Room k X.A) (hg : Gl X x) (ha : PA X (e :: es) t)
    (nd : (x == ("__debug__" : Str)) = false := by decide) (se : starEach (e :: es) X.env = (false, eval e X.env) :: starEach es X.env := by rfl)
    (pl : (backTo pos (starEach es X.env)).any (·.1) = false := by rfl) : PE X (.Call (.Name x p) (e :: es) [] pos) (tCall sp [] E0 t) :=
  pe_callG c.G g hr hg c.g c.kp c.b .nil pass0 ha nd se pl
end
/-- all that the law calls -/
structure LawE (P : Program) (w : World) (K : PySem.W.Frag) (mg : Str → Option Value) (base : Heap) (T : List (Addr × Str)) (Ca : Nat → Addr) (face : Addr) where
  fr : Frees mg
  fS : Addr
  dS : FuncData
  S : Callee P w K mg base 1 "_law_start" fS dS ["script"] (spStart K)
  fM : Addr
  dM : FuncData
  M : Callee P w K mg base 3 "_law_mixed" fM dM ["stream", "some"] (spMixed K)
  fa : Addr
  da : FuncData
  A : Callee P w K mg base 4 "_law_made_a" fa da ["x", "y", "z"] (spMade P w K mg base T Ca 0 18)
  fb : Addr
  db : FuncData
  B : Callee P w K mg base 4 "_law_made_b" fb db ["x", "y", "z"] (spMade P w K mg base T Ca 18 18)
  fc : Addr
  dc : FuncData
  C : Callee P w K mg base 4 "_law_made_c" fc dc ["x", "y", "z"] (spMade P w K mg base T Ca 36 18)
  fd : Addr
  dd : FuncData
  D : Callee P w K mg base 4 "_law_made_d" fd dd ["x", "y", "z"] (spMade P w K mg base T Ca 54 18)
  fe : Addr
  de : FuncData
  E : Callee P w K mg base 4 "_law_made_e" fe de ["x", "y", "z"] (spMade P w K mg base T Ca 72 11)
  fo : Addr
  do_ : FuncData
  O : Callee P w K mg base 3 "_law_is_own" fo do_ ["e", "at"] (spOwn K mg Ca)
  ft : Addr
  dt : FuncData
  H : CalleeG P w K mg base 1 "_law_are_these" ft dt ["found", "due"] spThese
  fk : Addr
  dk : FuncData
  Q : Callee P w K mg base 2 "_law_kinds" fk dk ["e"] (spKinds K mg Ca 0 83)
  cls : ∀ j, j < 83 → ErrC K (Ca j) ∧ OwnC K mg (Ca j) ∧ Kinds K mg Ca (Ca j) fun i => decide (i = j)
  gF : mg "FaceError" = some (.ref face)
  eF : PySem.W.excIn K face He.veBase "ValueError.__new__" = true
  kF : PySem.W.keepIn K (.ref face) = true
  cF : ErrC K face
  vF : PySem.W.kitOne K (.ref face) (.type "ValueError") = some true
  nF : Kinds K mg Ca face fun _ => false
section
variable {P : Program} {w : World} {K : PySem.W.Frag} {mg : Str → Option Value} {base : Heap} {T : List (Addr × Str)} {Ca : Nat → Addr} {face : Addr} {f : Addr} {fd : FuncData}
def spLaw (K : PySem.W.Frag) (T : List (Addr × Str)) : Sp := fun vs H Q _ => ∃ (a : Addr) (ns : List Int), vs = [.ref a] ∧ SqL K H a (ns.map V.int) ∧ ns.length ≤ 63 ∧ Tabs T H ∧ ∀ H', Q (.bl true) H'
end
end K0
end T_K0Law
section T_K0LawA
set_option Elab.async false
set_option linter.all false
set_option maxRecDepth 100000
set_option maxHeartbeats 4000000
namespace K0
open PySem PySem.Spec PyProof.Rows L2 LamX NdefX LamV ErrX GuX
/-! ### what is drawn, and how it is shown -/
def someD : List PyData := [.none, .int 5, .int (-1), .bool true, .str "a", .str "", .list [.int 1, .str "b"], .tuple [.int 2, .none], .dict [(.str "a", .int 1)], .list [.list [.str "x"]], .int (10 ^ 30), .tuple [.str "s", .int 3], .bool false, .int 0, .int 1]
def showsB (d : PyData) : Bool := d.showable && (decide (d.depth ≤ 60) && decide (d.shown.length ≤ 1000))
theorem Shows.of {d : PyData} (h : showsB d = true) : Shows d := by
  obtain ⟨a, h⟩ := Bool.and_eq_true_iff.mp h
  obtain ⟨b, c⟩ := Bool.and_eq_true_iff.mp h
  exact ⟨a, of_decide_eq_true b, of_decide_eq_true c⟩
theorem shows0 : Shows (.list []) := .of (by kernel_rfl)
theorem shows_all1 : (someD.all fun d => showsB (.list [d])) = true := by kernel_rfl
theorem shows_all2 : (someD.all fun d => someD.all fun e => showsB (.list [d, e])) = true := by kernel_rfl
theorem shows1 {d : PyData} (h : d ∈ someD) : Shows (.list [d]) := .of (List.all_eq_true.mp shows_all1 d h)
theorem shows2 {d e : PyData} (h : d ∈ someD) (h' : e ∈ someD) : Shows (.list [d, e]) := .of (List.all_eq_true.mp (List.all_eq_true.mp shows_all2 d h) e h')
theorem showsHeld1 : Shows (.list [.list [.str "v", .str "w"]]) := .of (by kernel_rfl)
theorem showsHeld2 : Shows (.list [.list [.str "v", .str "w"], .list [.str "v", .str "w"]]) := .of (by kernel_rfl)
theorem dqAll_mem {H : Hp} : ∀ {vs : List V} {ds : List PyData} {v : V}, DqAll H vs ds → v ∈ vs → ∃ d, d ∈ ds ∧ Dq H v d
  | [], _, _, _, m => by cases m
  | u :: vs, _, v, h, m => by
    cases h with
    | @cons _ _ d ds a b =>
      rcases List.mem_cons.mp m with e | m
      · exact ⟨d, List.mem_cons_self .., e ▸ a⟩
      · obtain ⟨d', m', q⟩ := dqAll_mem b m
        exact ⟨d', List.mem_cons_of_mem _ m', q⟩
/-! ### what is made stays -/
section
variable {P : Program} {w : World} {K : PySem.W.Frag} {mg : Str → Option Value} {base : Heap} {H H' : Hp} {t b : Addr} {S : Spec1} {zs : List V} {o : HO}
theorem errAt_upd {a C : Addr} {fs : List (Str × V)} (hb : H b = some (.lst zs)) (e : ErrAt H a C fs) : ErrAt (upd H b o) a C fs := e.on fun c φ q => by
  refine (upd_ne fun z => ?_).trans q
  rw [z, hb] at q
  cases q
theorem MadeAt.upd (hb : H b = some (.lst zs)) (hz : S.ws ≠ zs) (m : MadeAt P w K mg base H t S) : MadeAt P w K mg base (upd H b o) t S := by
  obtain ⟨e1, e2, fn, l, c, q, params, body, scope, h1, h2, h3, h4, h5, h6, h7⟩ := m.ex
  have ne : ∀ {c : Addr} {u : HO}, H c = some u → u ≠ .lst zs → L2.upd H b o c = some u := fun {c u} e n => by
    refine (upd_ne fun z => ?_).trans e
    rw [z, hb] at e
    exact n (Option.some.inj e).symm
  exact ⟨e1, e2, fn, l, c, q, params, body, scope, ne h1 (fun z => nomatch z), errAt_upd hb h2, errAt_upd hb h3, ne h4 (fun z => nomatch z), ne h5 (fun z => nomatch z), ne h6 (fun z => hz (HO.lst.inj z)), h7⟩
theorem AllMade.upd (hb : H b = some (.lst zs)) : ∀ {ts : List Addr} {Ss : List Spec1}, (∀ S ∈ Ss, S.ws ≠ zs) → AllMade P w K mg base H ts Ss → AllMade P w K mg base (upd H b o) ts Ss
  | _, _, _, .nil => .nil
  | _, _, n, .cons m r => .cons (m.upd hb (n _ (List.mem_cons_self ..))) (AllMade.upd hb (fun S h => n S (List.mem_cons_of_mem _ h)) r)
end
theorem spec_ws (Ca : Nat → Addr) (j : Nat) (x y : V) : (specOf Ca j x y).ws = [] ∨ (specOf Ca j x y).ws = [x] ∨ (specOf Ca j x y).ws = [x, y] := by
  unfold specOf
  split
  · exact .inr (.inl rfl)
  · exact .inr (.inr rfl)
  · exact .inl rfl
theorem spec_C (Ca : Nat → Addr) (j : Nat) (x y : V) : (specOf Ca j x y).C = Ca j := by
  unfold specOf
  split <;> rfl
theorem spec_len (Ca : Nat → Addr) (j : Nat) (x y : V) : (specOf Ca j x y).ws.length ≤ 2 := by
  rcases spec_ws Ca j x y with e | e | e <;> (rw [e]; simp)
/-! ### five lists put together -/
section
variable {P : Program} {w : World} {K : PySem.W.Frag} {mg : Str → Option Value} {base : Heap} {T : List (Addr × Str)} {Ca : Nat → Addr} {σ : L2.St} {x y z : V}
abbrev specs (Ca : Nat → Addr) (lo n : Nat) (x y : V) : List Spec1 := (List.range' lo n).map fun j => specOf Ca j x y
/-- a list is made of what is due at the places lo, lo + 1, .. -/
def Makes (P : Program) (w : World) (K : PySem.W.Frag) (mg : Str → Option Value) (base : Heap) (T : List (Addr × Str)) (Ca : Nat → Addr) (σ : L2.St) (x y : V) (lo n : Nat) (t : TE) : Prop := ∀ (H : Hp) (Q : VK), Tabs T H →
  (∀ (m : Addr) (ts : List Addr) (H' : Hp), ExtN H H' → Tabs T H' → H' m = some (.lst (ts.map V.ref)) → AllMade P w K mg base H' ts (specs Ca lo n x y) → (∀ c o, H c = some o → (∀ ps, o ≠ .tbl ps) → c ≠ m) → Q (.ref m) H') → t σ H Q
theorem makes_one {i j l lo n : Nat} (hx : σ[i]? = some (some x)) (hy : σ[j]? = some (some y)) (hz : σ[l]? = some (some z)) :
    Makes P w K mg base T Ca σ x y lo n (tCall (spMade P w K mg base T Ca lo n) [] E0 (tCons (tVar i) (tCons (tVar j) (tCons (tVar l) tNil)))) := fun H Q tb k =>
  ⟨x, hx, y, hy, z, hz, x, y, z, rfl, tb, fun m ts H' e t n h a => k m ts H' e t h a fun c o q _ => ne_of_none q n⟩
theorem tabs_new {H : Hp} {p : Addr} {u : HO} (t : Tabs T H) (h : H p = none) : Tabs T (upd H p u) := fun q hq => (t q hq).ext fun b o e => (upd_ne (ne_of_none e h)).trans e
theorem ext_new {H : Hp} {p : Addr} {u : HO} (h : H p = none) : ExtN H (upd H p u) := .of fun b o e => (upd_ne (ne_of_none e h)).trans e
theorem makes_cat {lo n m : Nat} {tA tB : TE} (hn : n + m ≤ 100) (a : Makes P w K mg base T Ca σ x y lo n tA) (b : Makes P w K mg base T Ca σ x y (lo + n) m tB) : Makes P w K mg base T Ca σ x y lo (n + m) (tOp rCat tA tB) := fun H Q tb k =>
  a H _ tb fun m1 ts1 H1 e1 t1 h1 a1 _ => b H1 _ t1 fun m2 ts2 H2 e2 t2 h2 a2 _ => by
    have h12 := e2 _ _ h1 fun _ z => nomatch z
    have l1 := a1.len
    have l2 := a2.len
    simp only [specs, List.length_map, List.length_range'] at l1 l2
    refine ⟨m1, m2, _, _, rfl, rfl, h12, h2, ?_, fun p hp => k p (ts1 ++ ts2) _ ((e1.trans e2).trans (ext_new hp)) (tabs_new t2 hp) ?_ ?_ fun c o q n => ne_of_none ((e1.trans e2) _ _ q n) hp⟩
    · rw [List.length_map, List.length_map, l1, l2]
      exact Nat.le_of_lt (small1000 (by omega))
    · rw [List.map_append]
      exact upd_same
    · have e : specs Ca lo (n + m) x y = specs Ca lo n x y ++ specs Ca (lo + n) m x y := by
        unfold specs
        rw [← List.map_append, List.range'_append_1]
      rw [e]
      exact (a1.on (e2.trans (ext_new hp))).append (a2.on (ext_new hp))
end
end K0
end T_K0LawA
section T_K0LawB
set_option Elab.async false
set_option linter.all false
set_option maxRecDepth 100000
set_option maxHeartbeats 4000000
namespace K0
open PySem PySem.Spec PyProof.Rows L2 LamX NdefX LamV ErrX GuX
section
variable {P : Program} {w : World} {K : PySem.W.Frag} {mg : Str → Option Value} {base : Heap} {T : List (Addr × Str)} {Ca : Nat → Addr} {σ : L2.St} {x y z : V}
/-- made.extend(..) -/
theorem ext_step {m : Addr} {ts : List Addr} {tB : TE} {H : Hp} {D : Ends} (h7 : σ[7]? = some (some (.ref m))) (b : Makes P w K mg base T Ca σ x y 54 29 tB) (tb : Tabs T H) (hm : H m = some (.lst (ts.map V.ref)))
    (am : AllMade P w K mg base H ts (specs Ca 0 54 x y))
    (k : ∀ (us : List Addr) (H' : Hp), Tabs T H' → H' m = some (.lst (us.map V.ref)) → AllMade P w K mg base H' us (specs Ca 0 83 x y) → (∀ c o, c ≠ m → H c = some o → (∀ ps, o ≠ .tbl ps) → H' c = some o) → D.nx σ H') :
    (tDrop (tBM K "list" rExtend (tVar 7) (tCons tB tNil))) D σ H := by
  have l1 : ts.length = 54 := by
    have := am.len
    simpa only [specs, List.length_map, List.length_range'] using this
  refine ⟨.ref m, h7, .inl ⟨rfl, _, SqL.of hm⟩, ?_⟩
  refine b H _ tb fun m2 us H1 e1 t1 h1 a1 _ => ?_
  have hm1 := e1 _ _ hm fun _ z => nomatch z
  have l2 : us.length = 29 := by
    have := a1.len
    simpa only [specs, List.length_map, List.length_range'] using this
  have nw : ∀ {lo n : Nat}, ∀ S ∈ specs Ca lo n x y, S.ws ≠ ts.map V.ref := fun {lo n} S hS z => by
    obtain ⟨j, _, e⟩ := List.mem_map.mp hS
    have q := congrArg List.length z
    rw [List.length_map, l1, ← e] at q
    have := spec_len Ca j x y
    omega
  refine ⟨m, m2, _, _, rfl, rfl, hm1, h1, ?_, ?_⟩
  · rw [List.length_map, List.length_map, l1, l2]
    exact Nat.le_of_lt (small1000 (by omega))
  refine k (ts ++ us) _ ?_ ?_ ?_ ?_
  · intro q hq
    refine tabs_lst (T := T) t1 hm1 (fun c o n e => (upd_ne n).trans e) q hq
  · rw [List.map_append]
    exact upd_same
  · have e : specs Ca 0 83 x y = specs Ca 0 54 x y ++ specs Ca 54 29 x y := by
      unfold specs
      rw [← List.map_append, List.range'_append_1]
    rw [e]
    exact AllMade.append (AllMade.upd hm1 nw (am.on e1)) (AllMade.upd hm1 nw a1)
  · exact fun c o n e f => (upd_ne n).trans (e1 _ _ e f)
/-- one question: what the exception at e keeps is shown as what is due -/
theorem these_one {i : Nat} {e fn l c : Addr} {C : Addr} {fvs : List (Str × V)} {ws : List V} {ds : List PyData} {q : Str} {params : Arguments} {body : Expr} {scope : Scope} {H : Hp} {Q : Bool → Hp → Prop}
    (hi : σ[i]? = some (some (.ref e))) (h11 : σ[11]? = some (some (.ref fn))) (h12 : σ[12]? = some (some (.ref l))) (he : ErrAt H e C fvs) (hf : H fn = some (LamO fn q params body scope [] c)) (hc : H c = some (CodeO c q)) (hl : H l = some (.lst ws))
    (ok : LamOk P w K mg base 2 fn (LamO fn q params body scope [] c) (c, CodeO c q) 1 (spGot C fvs ws)) (hd : DqAll H ws ds) (hs : Shows (.list ds)) (k : ∀ H', (∀ b o, H b = some o → H' b = some o) → Q true H') :
    (tB (tCall spThese [] E0 (tCons (tCallV P w K mg base 2 11 (tCons (tVar i) tNil)) (tCons (tVar 12) tNil)))) σ H Q := by
  refine ⟨fn, q, params, body, scope, c, h11, hf, .ref e, hi, spGot C fvs ws, ok, hf, hc, e, rfl, he, fun p hp => ?_⟩
  have st : ∀ b o, H b = some o → upd H p (.lst ws) b = some o := fun b o z => (upd_ne (ne_of_none z hp)).trans z
  refine ⟨.ref l, h12, p, l, ws, ws, ds, rfl, upd_same, st _ _ hl, DqAll.on (.of st) ds ws hd, DqAll.on (.of st) ds ws hd, hs, true, rfl, k _ st⟩
abbrev tThese (P : Program) (w : World) (K : PySem.W.Frag) (mg : Str → Option Value) (base : Heap) : TT :=
  tOr (tNot (tB (tCall spThese [] E0 (tCons (tCallV P w K mg base 2 11 (tCons (tVar 9) tNil)) (tCons (tVar 12) tNil))))) (tNot (tB (tCall spThese [] E0 (tCons (tCallV P w K mg base 2 11 (tCons (tVar 10) tNil)) (tCons (tVar 12) tNil)))))
/-- a made row is unpacked at the slots 9 to 12 -/
structure Row4 (P : Program) (w : World) (K : PySem.W.Frag) (mg : Str → Option Value) (base : Heap) (H : Hp) (e1 e2 fn l : Addr) (S : Spec1) : Prop where
  e1 : ErrAt H e1 S.C S.fvs
  e2 : ErrAt H e2 S.C S.fvs
  ls : H l = some (.lst S.ws)
  fn : ∃ (c : Addr) (q : Str) (params : Arguments) (body : Expr) (scope : Scope), H fn = some (LamO fn q params body scope [] c) ∧ H c = some (CodeO c q) ∧ LamOk P w K mg base 2 fn (LamO fn q params body scope [] c) (c, CodeO c q) 1 (spGot S.C S.fvs S.ws)
theorem Row4.on {H H' : Hp} {e1 e2 fn l : Addr} {S : Spec1} (r : Row4 P w K mg base H e1 e2 fn l S) (k : ∀ b o, H b = some o → H' b = some o) : Row4 P w K mg base H' e1 e2 fn l S := by
  obtain ⟨a, b, c, d, q, ps, bd, sc, f1, f2, f3⟩ := r
  exact ⟨a.on fun _ _ z => k _ _ z, b.on fun _ _ z => k _ _ z, k _ _ c, d, q, ps, bd, sc, k _ _ f1, k _ _ f2, f3⟩
theorem row4_of {H : Hp} {t : Addr} {S : Spec1} (m : MadeAt P w K mg base H t S) : ∃ e1 e2 fn l, H t = some (.tup [.ref e1, .ref e2, .ref fn, .ref l]) ∧ Row4 P w K mg base H e1 e2 fn l S := by
  obtain ⟨e1, e2, fn, l, c, q, params, body, scope, h1, h2, h3, h4, h5, h6, h7⟩ := m.ex
  exact ⟨e1, e2, fn, l, h1, h2, h3, h6, c, q, params, body, scope, h4, h5, h7⟩
theorem these_pass {e1 e2 fn l : Addr} {S : Spec1} {ds : List PyData} {H : Hp} {Q : Bool → Hp → Prop} (h9 : σ[9]? = some (some (.ref e1))) (h10 : σ[10]? = some (some (.ref e2))) (h11 : σ[11]? = some (some (.ref fn))) (h12 : σ[12]? = some (some (.ref l)))
    (r : Row4 P w K mg base H e1 e2 fn l S) (hd : DqAll H S.ws ds) (hs : Shows (.list ds)) (k : ∀ H', (∀ b o, H b = some o → H' b = some o) → Q false H') : tThese P w K mg base σ H Q := by
  obtain ⟨c, q, ps, bd, sc, f1, f2, f3⟩ := r.fn
  refine these_one h9 h11 h12 r.e1 f1 f2 r.ls f3 hd hs fun H1 k1 => ?_
  refine iteF ?_
  have r1 := r.on k1
  exact these_one h10 h11 h12 r1.e2 (k1 _ _ f1) (k1 _ _ f2) r1.ls f3 (DqAll.on (.of k1) ds _ hd) hs fun H2 k2 => k H2 fun b o z => k2 _ _ (k1 _ _ z)
/-- the first question of the first loop -/
abbrev tOwn (K : PySem.W.Frag) (mg : Str → Option Value) (Ca : Nat → Addr) : TT :=
  tOr (tNot (tB (tCall (spOwn K mg Ca) [] E0 (tCons (tVar 9) (tCons (tVar 8) tNil))))) (tNot (tB (tCall (spOwn K mg Ca) [] E0 (tCons (tVar 10) (tCons (tVar 8) tNil)))))
theorem own_pass {e1 e2 : Addr} {n : Nat} {C : Addr} {fvs : List (Str × V)} {H : Hp} {Q : Bool → Hp → Prop} (h8 : σ[8]? = some (some (.int n))) (h9 : σ[9]? = some (some (.ref e1))) (h10 : σ[10]? = some (some (.ref e2)))
    (a1 : ErrAt H e1 C fvs) (a2 : ErrAt H e2 C fvs) (ec : ErrC K C) (oc : OwnC K mg C) (kd : Kinds K mg Ca C fun i => decide (i = n)) (k : ∀ H', (∀ b o, H b = some o → H' b = some o) → Q false H') : tOwn K mg Ca σ H Q := by
  refine ⟨.ref e1, h9, .int n, h8, e1, C, fvs, _, n, rfl, a1, ec, kd, oc, fun j _ => rfl, fun H1 k1 => ⟨true, rfl, iteF ?_⟩⟩
  exact ⟨.ref e2, h10, .int n, h8, e2, C, fvs, _, n, rfl, a2.on fun _ _ z => k1 _ _ z, ec, kd, oc, fun j _ => rfl, fun H2 k2 => ⟨true, rfl, k H2 fun b o z => k2 _ _ (k1 _ _ z)⟩⟩
end
end K0
end T_K0LawB
section T_K0LawC
set_option Elab.async false
set_option linter.all false
set_option maxRecDepth 100000
set_option maxHeartbeats 4000000
namespace K0
open PySem PySem.Spec PyProof.Rows L2 LamX NdefX LamV ErrX GuX
/-- for i, x in enumerate(a list that stays) -/
theorem for_enum {K : PySem.W.Frag} {a : Addr} {xs : List V} {g : TG} {tb : TS} {D : Ends} {σ : L2.St} {H : Hp} (Pv : Nat → L2.St → Hp → Prop) (h0 : Pv 0 σ H) (hl : ∀ i σ H, i ≤ xs.length → Pv i σ H → SqL K H a xs)
    (hs : ∀ i x σ H T, xs[i]? = some x → Pv i σ H → H T = none → g (.ref T) σ (upd H T (.tup [.int (i : Nat), x])) fun σ2 H2 => tb { D with nx := Pv (i + 1), ct := Pv (i + 1), bk := D.nx } σ2 H2) (hd : ∀ σ H, Pv xs.length σ H → D.nx σ H) :
    ∃ W : Nat → Nat → L2.St → Hp → Prop, (∃ m, W 0 m σ H) ∧ ∀ i m σ H, W i m σ H →
      ((Ite K a).stop i H ∧ D.nx σ H) ∨ ((Ite K a).go i H ∧ ∃ N : L2.St → Hp → Prop, (∀ σ' H', N σ' H' → ∃ m', m' < m ∧ W (i + 1) m' σ' H') ∧ ∀ x H', (Ite K a).yld i H x H' → g x σ H' fun σ2 H2 => tb { D with nx := N, ct := N, bk := D.nx } σ2 H2) := by
  refine ⟨fun i m σ H => i ≤ xs.length ∧ m = xs.length - i ∧ Pv i σ H, ⟨_, Nat.zero_le _, rfl, h0⟩, ?_⟩
  rintro i m σ H ⟨le, rfl, pv⟩
  have sq := hl i σ H le pv
  rcases Nat.lt_or_ge i xs.length with lt | ge
  · refine .inr ⟨⟨xs, xs[i], sq, List.getElem?_eq_getElem lt⟩, Pv (i + 1), fun _ _ q => ⟨_, Nat.sub_lt_sub_left lt (Nat.lt_succ_self i), lt, rfl, q⟩, ?_⟩
    rintro v H' ⟨T, x, rfl, hT, rfl, hx⟩
    exact hs i x σ H T (hx xs sq) pv hT
  · have eq : i = xs.length := Nat.le_antisymm le ge
    rw [eq] at pv ⊢
    exact .inl ⟨⟨xs, sq, Nat.le_refl _⟩, hd σ H pv⟩
theorem cut3 (x y z : V) (r : List V) : cutV (x :: y :: z :: r) none (some 3) = [x, y, z] := by
  unfold cutV
  have e0 : HT.sIx (x :: y :: z :: r).length 0 none = 0 := rfl
  have e3 : HT.sIx (x :: y :: z :: r).length (x :: y :: z :: r).length (some 3) = 3 := by
    show (if (3 : Int) < 0 then ((3 : Int) + (((x :: y :: z :: r).length : Nat) : Int)).toNat else min (3 : Int).toNat (x :: y :: z :: r).length) = 3
    rw [if_neg (by decide)]
    simp only [List.length_cons]
    show min 3 (r.length + 1 + 1 + 1) = 3
    omega
  rw [e0, e3]
  rfl
/-! ### the first loop's turn -/
section
variable {P : Program} {w : World} {K : PySem.W.Frag} {mg : Str → Option Value} {base : Heap} {T : List (Addr × Str)} {Ca : Nat → Addr} {σ : L2.St} {x y z : V}
abbrev one (P : Program) (w : World) (K : PySem.W.Frag) (mg : Str → Option Value) (base : Heap) (T : List (Addr × Str)) (Ca : Nat → Addr) (lo n i j l : Nat) : TE := tCall (spMade P w K mg base T Ca lo n) [] E0 (tCons (tVar i) (tCons (tVar j) (tCons (tVar l) tNil)))
abbrev tABC (P : Program) (w : World) (K : PySem.W.Frag) (mg : Str → Option Value) (base : Heap) (T : List (Addr × Str)) (Ca : Nat → Addr) (i j l : Nat) : TE := tOp rCat (tOp rCat (one P w K mg base T Ca 0 18 i j l) (one P w K mg base T Ca 18 18 i j l)) (one P w K mg base T Ca 36 18 i j l)
abbrev tDE (P : Program) (w : World) (K : PySem.W.Frag) (mg : Str → Option Value) (base : Heap) (T : List (Addr × Str)) (Ca : Nat → Addr) (i j l : Nat) : TE := tOp rCat (one P w K mg base T Ca 54 18 i j l) (one P w K mg base T Ca 72 11 i j l)
theorem makes_abc {i j l : Nat} (hx : σ[i]? = some (some x)) (hy : σ[j]? = some (some y)) (hz : σ[l]? = some (some z)) : Makes P w K mg base T Ca σ x y 0 54 (tABC P w K mg base T Ca i j l) :=
  makes_cat (lo := 0) (n := 36) (m := 18) (by decide) (makes_cat (lo := 0) (n := 18) (m := 18) (by decide) (makes_one hx hy hz) (makes_one hx hy hz)) (makes_one hx hy hz)
theorem makes_de {i j l : Nat} (hx : σ[i]? = some (some x)) (hy : σ[j]? = some (some y)) (hz : σ[l]? = some (some z)) : Makes P w K mg base T Ca σ x y 54 29 (tDE P w K mg base T Ca i j l) :=
  makes_cat (lo := 54) (n := 18) (m := 11) (by decide) (makes_one hx hy hz) (makes_one hx hy hz)
abbrev g4 (K : PySem.W.Frag) : TG := gTup K 4 (gCons (gName 9) (gCons (gName 10) (gCons (gName 11) (gCons (gName 12) gNil))))
abbrev tBody1 (P : Program) (w : World) (K : PySem.W.Frag) (mg : Str → Option Value) (base : Heap) (Ca : Nat → Addr) : TS := tSeq (tIfS (tOwn K mg Ca) (tRet (tC (.bl false))) tNext) (tIfS (tThese P w K mg base) (tRet (tC (.bl false))) tNext)
abbrev tFor1 (P : Program) (w : World) (K : PySem.W.Frag) (mg : Str → Option Value) (base : Heap) (Ca : Nat → Addr) : TS := tFor (iEnum K (tCons (tVar 7) tNil)) (gTup K 2 (gCons (gName 8) (gCons (g4 K) gNil))) (tBody1 P w K mg base Ca)
abbrev tFor2 (P : Program) (w : World) (K : PySem.W.Frag) (mg : Str → Option Value) (base : Heap) : TS := tFor (iList K (tVar 7)) (g4 K) (tIfS (tThese P w K mg base) (tRet (tC (.bl false))) tNext)
/-- the slots that stay through the inner loops -/
structure Keep (σ0 σ : L2.St) : Prop where
  len : σ.length = σ0.length
  at_ : ∀ i, i < 8 ∨ 12 < i → σ[i]? = σ0[i]?
theorem keep_set {σ0 σ : L2.St} {i : Nat} {v : V} (k : Keep σ0 σ) (h : 8 ≤ i) (h' : i ≤ 12) : Keep σ0 (σ.set i (some v)) := by
  refine ⟨by rw [List.length_set]; exact k.len, fun j hj => ?_⟩
  rw [List.getElem?_set_ne (by omega)]
  exact k.at_ j hj
/-- what is due can be shown -/
def Due (H : Hp) (x y : V) : Prop := ∃ dx dy, Dq H x dx ∧ Dq H y dy ∧ Shows (.list [dx]) ∧ Shows (.list [dx, dy])
theorem Due.on {H H' : Hp} (k : ExtN H H') (d : Due H x y) : Due H' x y := by
  obtain ⟨dx, dy, a, b, c, e⟩ := d
  exact ⟨dx, dy, Dq.on k _ _ a, Dq.on k _ _ b, c, e⟩
theorem Due.at_ {H : Hp} (d : Due H x y) (j : Nat) : ∃ ds, DqAll H (specOf Ca j x y).ws ds ∧ Shows (.list ds) := by
  obtain ⟨dx, dy, a, b, c, e⟩ := d
  rcases spec_ws Ca j x y with q | q | q
  · exact ⟨[], by rw [q]; exact .nil, shows0⟩
  · exact ⟨[dx], by rw [q]; exact .cons a .nil, c⟩
  · exact ⟨[dx, dy], by rw [q]; exact .cons a (.cons b .nil), e⟩
theorem specs_at {i : Nat} (h : i < 83) : (specs Ca 0 83 x y)[i]? = some (specOf Ca i x y) := by
  unfold specs
  rw [List.getElem?_map, List.getElem?_range' h]
  simp
theorem set4 {σ : L2.St} {a b c d : V} (h : 12 < σ.length) : let τ := (((σ.set 9 (some a)).set 10 (some b)).set 11 (some c)).set 12 (some d)
    τ[9]? = some (some a) ∧ τ[10]? = some (some b) ∧ τ[11]? = some (some c) ∧ τ[12]? = some (some d) ∧ τ[8]? = σ[8]? := by
  refine ⟨?_, ?_, ?_, ?_, ?_⟩ <;> simp [List.getElem?_set] <;> omega
theorem for1_ok {m : Addr} {us : List Addr} {H : Hp} {D : Ends} (hlen : σ.length = 15) (h7 : σ[7]? = some (some (.ref m))) (hm : H m = some (.lst (us.map V.ref))) (am : AllMade P w K mg base H us (specs Ca 0 83 x y)) (du : Due H x y)
    (cls : ∀ j, j < 83 → ErrC K (Ca j) ∧ OwnC K mg (Ca j) ∧ Kinds K mg Ca (Ca j) fun i => decide (i = j))
    (k : ∀ σ' H', Keep σ σ' → (∀ b o, H b = some o → H' b = some o) → D.nx σ' H') : tFor1 P w K mg base Ca D σ H := by
  have lu : us.length = 83 := by
    have := am.len
    simpa only [specs, List.length_map, List.length_range'] using this
  refine ⟨.ref m, h7, m, _, rfl, SqL.of hm, ?_⟩
  refine for_enum (xs := us.map V.ref) (fun i σ' H' => Keep σ σ' ∧ ∀ b o, H b = some o → H' b = some o) ⟨⟨rfl, fun _ _ => rfl⟩, fun _ _ e => e⟩ (fun i σ' H' _ q => SqL.of (q.2 _ _ hm)) ?_ fun σ' H' q => k σ' H' q.1 q.2
  rintro i v σ1 H1 t hv ⟨kp, st⟩ ht
  have hi : i < 83 := by
    have := List.getElem?_eq_some_iff.mp hv
    obtain ⟨q, _⟩ := this
    rw [List.length_map, lu] at q
    exact q
  obtain ⟨tt, e, mm⟩ := am.at_ (specs_at (Ca := Ca) (x := x) (y := y) hi)
  have ev : v = .ref tt := by
    rw [List.getElem?_map, e] at hv
    exact (Option.some.inj hv).symm
  subst ev
  have st2 : ∀ b o, H b = some o → upd H1 t (.tup [.int (i : Nat), .ref tt]) b = some o := fun b o q => (upd_ne (ne_of_none (st _ _ q) ht)).trans (st _ _ q)
  obtain ⟨e1, e2, fn, l, h4, rw4⟩ := row4_of (mm.on (.of st2))
  have l1 : σ1.length = 15 := kp.len.trans hlen
  refine ⟨t, _, rfl, .inl (.inl upd_same), rfl, _, _, rfl, _, _, rfl, ⟨tt, _, rfl, .inl (.inl h4), rfl, _, _, rfl, _, _, rfl, _, _, rfl, _, _, rfl, rfl, rfl, ?_⟩⟩
  have k8 := keep_set (v := .int (i : Nat)) kp (i := 8) (by decide) (by decide)
  have kF : Keep σ _ := keep_set (v := .ref l) (keep_set (v := .ref fn) (keep_set (v := .ref e2) (keep_set (v := .ref e1) k8 (i := 9) (by decide) (by decide)) (i := 10) (by decide) (by decide)) (i := 11) (by decide) (by decide)) (i := 12) (by decide) (by decide)
  obtain ⟨s9, s10, s11, s12, s8⟩ := set4 (σ := σ1.set 8 (some (.int (i : Nat)))) (a := .ref e1) (b := .ref e2) (c := .ref fn) (d := .ref l) (by rw [List.length_set]; omega)
  have s8' : (σ1.set 8 (some (V.int (i : Nat))))[8]? = some (some (.int (i : Nat))) := by
    rw [List.getElem?_set_self (by omega)]
  obtain ⟨c1, c2, c3⟩ := cls i hi
  have eC := spec_C Ca i x y
  refine own_pass (n := i) (C := Ca i) (s8.trans s8') s9 s10 (eC ▸ rw4.e1) (eC ▸ rw4.e2) c1 c2 c3 fun H2 k2 => iteF ?_
  obtain ⟨ds, d1, d2⟩ := du.at_ (Ca := Ca) i
  refine these_pass s9 s10 s11 s12 (rw4.on k2) (DqAll.on (.of fun b o q => k2 _ _ (st2 b o q)) ds _ d1) d2 fun H3 k3 => iteF ?_
  exact ⟨kF, fun b o q => k3 _ _ (k2 _ _ (st2 b o q))⟩
theorem for2_ok {m : Addr} {us : List Addr} {H : Hp} {D : Ends} (hlen : σ.length = 15) (h7 : σ[7]? = some (some (.ref m))) (hm : H m = some (.lst (us.map V.ref))) (am : AllMade P w K mg base H us (specs Ca 0 83 x y)) (du : Due H x y)
    (k : ∀ σ' H', Keep σ σ' → (∀ b o, H b = some o → H' b = some o) → D.nx σ' H') : tFor2 P w K mg base D σ H := by
  have lu : us.length = 83 := by
    have := am.len
    simpa only [specs, List.length_map, List.length_range'] using this
  refine ⟨.ref m, h7, m, rfl, ⟨_, SqL.of hm⟩, ?_⟩
  refine for_list (xs := us.map V.ref) (fun i σ' H' => Keep σ σ' ∧ ∀ b o, H b = some o → H' b = some o) ⟨⟨rfl, fun _ _ => rfl⟩, fun _ _ e => e⟩ (fun i σ' H' _ q => SqL.of (q.2 _ _ hm)) ?_ fun σ' H' q => k σ' H' q.1 q.2
  rintro i v σ1 H1 hv ⟨kp, st⟩
  have hi : i < 83 := by
    obtain ⟨q, _⟩ := List.getElem?_eq_some_iff.mp hv
    rw [List.length_map, lu] at q
    exact q
  obtain ⟨tt, e, mm⟩ := am.at_ (specs_at (Ca := Ca) (x := x) (y := y) hi)
  have ev : v = .ref tt := by
    rw [List.getElem?_map, e] at hv
    exact (Option.some.inj hv).symm
  subst ev
  obtain ⟨e1, e2, fn, l, h4, rw4⟩ := row4_of (mm.on (.of st))
  have l1 : σ1.length = 15 := kp.len.trans hlen
  refine ⟨tt, _, rfl, .inl (.inl h4), rfl, _, _, rfl, _, _, rfl, _, _, rfl, _, _, rfl, rfl, ?_⟩
  have kF : Keep σ _ := keep_set (v := .ref l) (keep_set (v := .ref fn) (keep_set (v := .ref e2) (keep_set (v := .ref e1) kp (i := 9) (by decide) (by decide)) (i := 10) (by decide) (by decide)) (i := 11) (by decide) (by decide)) (i := 12) (by decide) (by decide)
  obtain ⟨s9, s10, s11, s12, _⟩ := set4 (σ := σ1) (a := .ref e1) (b := .ref e2) (c := .ref fn) (d := .ref l) (by omega)
  obtain ⟨ds, d1, d2⟩ := du.at_ (Ca := Ca) i
  refine these_pass s9 s10 s11 s12 rw4 (DqAll.on (.of st) ds _ d1) d2 fun H3 k3 => iteF ?_
  exact ⟨kF, fun b o q => k3 _ _ (st b o q)⟩
/-- made = ..; made.extend(..) -/
theorem made_all {i j l : Nat} {H : Hp} {D : Ends} {u : TS} (hx : σ[i]? = some (some x)) (hy : σ[j]? = some (some y)) (hz : σ[l]? = some (some z)) (h7 : 7 < σ.length) (ni : i ≠ 7) (nj : j ≠ 7) (nl : l ≠ 7) (tb : Tabs T H)
    (k : ∀ (m : Addr) (us : List Addr) (H' : Hp), ExtN H H' → Tabs T H' → H' m = some (.lst (us.map V.ref)) → AllMade P w K mg base H' us (specs Ca 0 83 x y) → u D (σ.set 7 (some (.ref m))) H') :
    tSeq (tAsg (tABC P w K mg base T Ca i j l) (gName 7)) (tSeq (tDrop (tBM K "list" rExtend (tVar 7) (tCons (tDE P w K mg base T Ca i j l) tNil))) u) D σ H := by
  refine makes_abc hx hy hz H _ tb fun m ts H1 e1 t1 h1 a1 nw => ?_
  have sx : ∀ {q : Nat} {v : V}, q ≠ 7 → σ[q]? = some (some v) → (σ.set 7 (some (V.ref m)))[q]? = some (some v) := fun {q v} n e => by
    rw [List.getElem?_set_ne (Ne.symm n)]
    exact e
  refine ext_step (σ := σ.set 7 (some (.ref m))) (D := { D with nx := u D }) (x := x) (y := y) (Ca := Ca) (by rw [List.getElem?_set_self h7]) (makes_de (sx ni hx) (sx nj hy) (sx nl hz)) t1 h1 a1 fun us H2 t2 h2 a2 k2 => ?_
  exact k m us H2 (fun c o e n => k2 c o (nw c o e n) (e1 _ _ e n) n) t2 h2 a2
end
end K0
end T_K0LawC
section T_K0LawD
set_option Elab.async false
set_option linter.all false
set_option maxRecDepth 100000
set_option maxHeartbeats 4000000
namespace K0
open PySem PySem.Spec PyProof.Rows L2 LamX NdefX LamV ErrX GuX
theorem spring_ext {H H' : Hp} {p l : Addr} {n : Nat} (s : Spring H p l n) (k : ExtN H H') : Spring H' p l n := by
  obtain ⟨⟨a, b, c, h1, r⟩, ns, h2, q⟩ := s
  exact ⟨⟨a, b, c, k _ _ h1 (fun _ z => nomatch z), r⟩, ns, k _ _ h2 (fun _ z => nomatch z), q⟩
abbrev Gh (p l : Addr) (H : Hp) : Hp := hid p (hid l H)
theorem gh_some {p l b : Addr} {H : Hp} {o : HO} (e : Gh p l H b = some o) : b ≠ p ∧ b ≠ l ∧ H b = some o := by
  obtain ⟨n1, e1⟩ := hid_some e
  obtain ⟨n2, e2⟩ := hid_some e1
  exact ⟨n1, n2, e2⟩
theorem gh_ext {p l : Addr} {H H' : Hp} (k : ∀ b o, b ≠ p → b ≠ l → H b = some o → (∀ ps, o ≠ .tbl ps) → H' b = some o) : ExtN (Gh p l H) (Gh p l H') := fun b o e n => by
  obtain ⟨n1, n2, e2⟩ := gh_some e
  show hid p (hid l H') b = some o
  rw [hid_ne n1, hid_ne n2]
  exact k b o n1 n2 e2 n
theorem tabs_kept {T : List (Addr × Str)} {H H' : Hp} {p l : Addr} {xs ys : List V} (t : Tabs T H) (hp : H p = some (.lst xs)) (hl : H l = some (.lst ys)) (k : Kept H H' p l) : Tabs T H' := fun q hq => by
  have st : ∀ b o, H b = some o → (∀ zs, o ≠ .lst zs) → H' b = some o := fun b o e n => by
    refine k b o (fun z => ?_) (fun z => ?_) e
    · rw [z, hp] at e
      exact n _ (Option.some.inj e).symm
    · rw [z, hl] at e
      exact n _ (Option.some.inj e).symm
  obtain ⟨ps, h1, h2, h3⟩ := t q hq
  refine ⟨ps, st _ _ h1 (fun _ z => nomatch z), h2, fun pos cv hc => ?_⟩
  obtain ⟨c, e1, e2⟩ := h3 pos cv hc
  exact ⟨c, e1, st _ _ e2 fun _ z => nomatch z⟩
/-- between the turns of the first loop -/
structure Turn (T : List (Addr × Str)) (p l sm : Addr) (vs : List V) (i : Nat) (σ : L2.St) (H : Hp) : Prop where
  len : σ.length = 15
  s1 : σ[1]? = some (some (.ref p))
  s2 : σ[2]? = some (some (.ref sm))
  sp : Spring H p l (15 * i)
  tb : Tabs T H
  dq : DqAll (Gh p l H) vs someD
  sv : H sm = some (.lst vs)
section
variable {P : Program} {w : World} {K : PySem.W.Frag} {mg : Str → Option Value} {base : Heap} {T : List (Addr × Str)} {Ca : Nat → Addr}
abbrev tMix (K : PySem.W.Frag) : TS := tAsg (tSl (rSlL K) (tCall (spMixed K) [] E0 (tCons (tVar 1) (tCons (tVar 2) tNil))) tNoPart (tPart (tC (.int 3)))) (gUnl K 3 (gCons (gName 4) (gCons (gName 5) (gCons (gName 6) gNil))))
theorem someD_len {H : Hp} {vs : List V} (h : DqAll H vs someD) : vs.length = 15 := dqAll_len h
theorem three : ∀ {ys : List V}, ys.length = 15 → ∃ x y z r, ys = x :: y :: z :: r
  | x :: y :: z :: r, _ => ⟨x, y, z, r, rfl⟩
  | [], h => by cases h
  | [_], h => by cases h
  | [_, _], h => by cases h
theorem turn_ok {p l sm : Addr} {vs : List V} {i : Nat} {σ : L2.St} {H : Hp} {D : Ends} (hi : i < 2) (pl : p ≠ l) (np : sm ≠ p) (nl : sm ≠ l) (I : Turn T p l sm vs i σ H)
    (cls : ∀ j, j < 83 → ErrC K (Ca j) ∧ OwnC K mg (Ca j) ∧ Kinds K mg Ca (Ca j) fun i => decide (i = j)) (k : ∀ σ' H', Turn T p l sm vs (i + 1) σ' H' → D.nx σ' H') :
    (tSeq (tMix K) (tSeq (tAsg (tABC P w K mg base T Ca 4 5 6) (gName 7)) (tSeq (tDrop (tBM K "list" rExtend (tVar 7) (tCons (tDE P w K mg base T Ca 4 5 6) tNil))) (tFor1 P w K mg base Ca)))) D σ H := by
  obtain ⟨len, s1, s2, sp, tb, dq, sv⟩ := I
  have lv := someD_len dq
  obtain ⟨⟨pa, pb, pc, hp, _⟩, ns, hl, _⟩ := id sp
  refine ⟨.ref p, s1, .ref sm, s2, p, l, sm, 15 * i, vs, rfl, sp, pl, np, nl, SqL.of sv, by omega, by omega, fun ys q H1 pm sp1 kp hq aq => ?_⟩
  obtain ⟨x, y, z, r, rfl⟩ := three (pm.length_eq.trans lv)
  refine ⟨3, rfl, q, _, rfl, SqL.of aq, fun c hc => ?_⟩
  rw [cut3]
  refine ⟨c, _, rfl, SqL.of upd_same, rfl, x, _, rfl, y, _, rfl, z, _, rfl, rfl, ?_⟩
  have kp2 : ∀ b o, b ≠ p → b ≠ l → H b = some o → upd H1 c (.lst [x, y, z]) b = some o := fun b o n1 n2 e => (upd_ne (ne_of_none (kp _ _ n1 n2 e) hc)).trans (kp _ _ n1 n2 e)
  have new : ∀ b o, H1 b = some o → upd H1 c (.lst [x, y, z]) b = some o := fun b o e => (upd_ne (ne_of_none e hc)).trans e
  have tb2 : Tabs T (upd H1 c (.lst [x, y, z])) := tabs_kept tb hp hl kp2
  have sp2 := spring_ext sp1 (.of new)
  have toG : ExtN (Gh p l H) (upd H1 c (.lst [x, y, z])) := fun b o e _ => by
    obtain ⟨n1, n2, e2⟩ := gh_some e
    exact kp2 _ _ n1 n2 e2
  obtain ⟨dx, mx, qx⟩ := dqAll_mem dq (pm.mem_iff.mp (List.mem_cons_self ..) : x ∈ vs)
  obtain ⟨dy, my, qy⟩ := dqAll_mem dq (pm.mem_iff.mp (List.mem_cons_of_mem _ (List.mem_cons_self ..)) : y ∈ vs)
  have du : Due (upd H1 c (.lst [x, y, z])) x y := ⟨dx, dy, Dq.on toG _ _ qx, Dq.on toG _ _ qy, shows1 mx, shows2 mx my⟩
  have z4 : (((σ.set 4 (some x)).set 5 (some y)).set 6 (some z))[4]? = some (some x) := by simp [List.getElem?_set]; omega
  have z5 : (((σ.set 4 (some x)).set 5 (some y)).set 6 (some z))[5]? = some (some y) := by simp [List.getElem?_set]; omega
  have z6 : (((σ.set 4 (some x)).set 5 (some y)).set 6 (some z))[6]? = some (some z) := by simp [List.getElem?_set]; omega
  refine made_all z4 z5 z6 (by simp only [List.length_set]; omega) (by decide) (by decide) (by decide) tb2 fun m us H2 e2 t2 hm am => ?_
  refine for1_ok (x := x) (y := y) (us := us) (m := m) (by simp only [List.length_set]; exact len) (by rw [List.getElem?_set_self (by simp only [List.length_set]; omega)]) hm am (du.on e2) cls fun σ3 H3 kk st => ?_
  have all : ∀ b o, b ≠ p → b ≠ l → H b = some o → (∀ ps, o ≠ .tbl ps) → H3 b = some o := fun b o n1 n2 e n => st _ _ (e2 _ _ (kp2 _ _ n1 n2 e) n)
  refine k σ3 H3 ⟨?_, ?_, ?_, ?_, ?_, DqAll.on (gh_ext all) _ _ dq, all _ _ np nl sv fun _ z => nomatch z⟩
  · rw [kk.len]
    simp only [List.length_set]
    exact len
  · rw [kk.at_ 1 (by decide)]
    simp [List.getElem?_set]
    exact s1
  · rw [kk.at_ 2 (by decide)]
    simp [List.getElem?_set]
    exact s2
  · have q := spring_ext (spring_ext sp2 e2) (.of st)
    rw [lv] at q
    exact q
  · exact fun q hq => (t2 q hq).ext st
end
end K0
end T_K0LawD
section T_K0LawE
set_option Elab.async false
set_option linter.all false
set_option maxRecDepth 100000
set_option maxHeartbeats 4000000
namespace K0
open PySem PySem.Spec PyProof.Rows L2 LamX NdefX LamV ErrX GuX
theorem stay {H : Hp} {p : Addr} {u : HO} (h : H p = none) : ∀ b o, H b = some o → upd H p u b = some o := fun b o e => (upd_ne (ne_of_none e h)).trans e
theorem stay2 {H : Hp} {p : Addr} {u u' : HO} (h : H p = none) : ∀ b o, H b = some o → upd (upd H p u) p u' b = some o := fun b o e => (upd_ne (ne_of_none e h)).trans ((upd_ne (ne_of_none e h)).trans e)
theorem gh_of {p l b : Addr} {H : Hp} {o : HO} (n1 : p ≠ b) (n2 : l ≠ b) (e : H b = some o) : Gh p l H b = some o := by
  show hid p (hid l H) b = some o
  rw [hid_ne (Ne.symm n1), hid_ne (Ne.symm n2)]
  exact e
theorem Turn.set3 {T : List (Addr × Str)} {p l sm : Addr} {vs : List V} {i : Nat} {σ : L2.St} {H : Hp} {v : V} (t : Turn T p l sm vs i σ H) : Turn T p l sm vs i (σ.set 3 (some v)) H :=
  ⟨by rw [List.length_set]; exact t.len, by rw [List.getElem?_set_ne (by decide)]; exact t.s1, by rw [List.getElem?_set_ne (by decide)]; exact t.s2, t.sp, t.tb, t.dq, t.sv⟩
section
variable {P : Program} {w : World} {K : PySem.W.Frag} {mg : Str → Option Value} {base : Heap} {T : List (Addr × Str)} {Ca : Nat → Addr} {face : Addr} {f : Addr} {fd : FuncData}
theorem ok_law (F : FunD K "law" "law" (defArgs sLaw) (defBody sLaw) (defScope sLaw) [] [] f fd) (L : LawE P w K mg base T Ca face) : FnG P w K mg base CX0 5 f fd ["script"] (spLaw K T) := by
  have mi : mg "isinstance" = none := L.fr "isinstance" (by decide +kernel)
  have mr : mg "range" = none := L.fr "range" (by decide +kernel)
  have me : mg "enumerate" = none := L.fr "enumerate" (by decide +kernel)
  have mv : mg "ValueError" = none := L.fr "ValueError" (by decide +kernel)
  refine FnG.of F scLaw (fun vs H Q E h => ?_) (fun cdv A outer s H vs Q E g hr h => ?_)
  · obtain ⟨a, ns, rfl, _⟩ := h
    rfl
  obtain ⟨a, ns, rfl, hS, hn, tH, k⟩ := h
  have r3 := hr.mono (show 3 ≤ 4 by decide)
  have r2 := hr.mono (show 2 ≤ 4 by decide)
  have r1 := hr.mono (show 1 ≤ 4 by decide)
  refine' ⟨_, PSs.nox (pss_cons (ps_set (i := 1) scLaw.nd rfl (.inl rfl) (L.S.pe r1 (by rfl) (pa_cons (pv 0) pa_nil)))
    (pss_cons (ps_set (i := 2) scLaw.nd rfl (.inl rfl) (pe_lst (pa_cons pe_non (pa_cons pe_int (pa_cons (pe_un un_neg pe_int) (pa_cons pe_bl (pa_cons pe_str (pa_cons pe_str (pa_cons (pe_lst (pa_cons pe_int (pa_cons pe_str pa_nil)))
      (pa_cons (pe_tup (pa_cons pe_int (pa_cons pe_non pa_nil))) (pa_cons (pe_disp (pps_cons pe_str pe_int pps_nil) rfl rfl (by simp) (by decide)) (pa_cons (pe_lst (pa_cons (pe_lst (pa_cons pe_str pa_nil)) pa_nil))
      (pa_cons (pe_op op_pow pe_int pe_int) (pa_cons (pe_tup (pa_cons pe_str (pa_cons pe_int pa_nil))) (pa_cons pe_bl (pa_cons pe_int (pa_cons pe_int pa_nil)))))))))))))))))
    (pss_cons (ps_for PassesOwn.never rfl (pi_range1 (by rfl) mr (pa_cons pe_int pa_nil)) (pg_name (i := 3) scLaw.nd rfl (.inl rfl))
      (pss_cons (ps_asg (pe_slice sl_list (L.M.pe r3 (by rfl) (pa_cons (pv 1) (pa_cons (pv 2) pa_nil))) po_none (po_some pe_int)) (pg_unl (n := 3) rfl (pgs_cons (pg_name (i := 4) scLaw.nd rfl (.inl rfl)) (pgs_cons (pg_name (i := 5) scLaw.nd rfl (.inl rfl)) (pgs_cons (pg_name (i := 6) scLaw.nd rfl (.inl rfl)) pgs_nil)))))
      (pss_cons (ps_set (i := 7) scLaw.nd rfl (.inl rfl) (pe_op op_cat (pe_op op_cat (L.A.pe hr (by rfl) (pa_cons (pv 4) (pa_cons (pv 5) (pa_cons (pv 6) pa_nil)))) (L.B.pe hr (by rfl) (pa_cons (pv 4) (pa_cons (pv 5) (pa_cons (pv 6) pa_nil))))) (L.C.pe hr (by rfl) (pa_cons (pv 4) (pa_cons (pv 5) (pa_cons (pv 6) pa_nil))))))
      (pss_cons (ps_expr (pe_bm PySem.F.plainAttrs_list PySem.F.slot_list_extend PySem.F.type_list_extend mt_extend (pv 7) (pa_cons (pe_op op_cat (L.D.pe hr (by rfl) (pa_cons (pv 4) (pa_cons (pv 5) (pa_cons (pv 6) pa_nil)))) (L.E.pe hr (by rfl) (pa_cons (pv 4) (pa_cons (pv 5) (pa_cons (pv 6) pa_nil))))) pa_nil)) (by rfl))
      (pss_one (ps_for PassesOwn.never rfl (pi_enum (by rfl) me (pa_cons (pv 7) pa_nil)) (pg_tup (n := 2) rfl (pgs_cons (pg_name (i := 8) scLaw.nd rfl (.inl rfl)) (pgs_cons (pg_tup (n := 4) rfl (pgs_cons (pg_name (i := 9) scLaw.nd rfl (.inl rfl)) (pgs_cons (pg_name (i := 10) scLaw.nd rfl (.inl rfl)) (pgs_cons (pg_name (i := 11) scLaw.nd rfl (.inl rfl)) (pgs_cons (pg_name (i := 12) scLaw.nd rfl (.inl rfl)) pgs_nil))))) pgs_nil)))
        (pss_cons (ps_if (PW.pt (pw_or (pt_not (pt_val (L.O.pe r3 (by rfl) (pa_cons (pv 9) (pa_cons (pv 8) pa_nil))))) (pw_or1 (pt_not (pt_val (L.O.pe r3 (by rfl) (pa_cons (pv 10) (pa_cons (pv 8) pa_nil)))))))) (pss_one (ps_ret pe_bl)) pss_nil)
        (pss_one (ps_if (PW.pt (pw_or (pt_not (pt_val (L.H.pe g r1 (by rfl) (pa_cons (pe_callV (i := 11) r2 (pa_cons (pv 9) pa_nil)) (pa_cons (pv 12) pa_nil))))) (pw_or1 (pt_not (pt_val (L.H.pe g r1 (by rfl) (pa_cons (pe_callV (i := 11) r2 (pa_cons (pv 10) pa_nil)) (pa_cons (pv 12) pa_nil)))))))) (pss_one (ps_ret pe_bl)) pss_nil)))))))))
    (pss_cons (ps_set (i := 13) scLaw.nd rfl (.inl rfl) (pe_lst (pa_cons pe_str pa_nil)))
    (pss_cons (ps_set (i := 7) scLaw.nd rfl (.inl rfl) (pe_op op_cat (pe_op op_cat (L.A.pe hr (by rfl) (pa_cons (pv 13) (pa_cons (pv 13) (pa_cons (pv 13) pa_nil)))) (L.B.pe hr (by rfl) (pa_cons (pv 13) (pa_cons (pv 13) (pa_cons (pv 13) pa_nil))))) (L.C.pe hr (by rfl) (pa_cons (pv 13) (pa_cons (pv 13) (pa_cons (pv 13) pa_nil))))))
    (pss_cons (ps_expr (pe_bm PySem.F.plainAttrs_list PySem.F.slot_list_extend PySem.F.type_list_extend mt_extend (pv 7) (pa_cons (pe_op op_cat (L.D.pe hr (by rfl) (pa_cons (pv 13) (pa_cons (pv 13) (pa_cons (pv 13) pa_nil)))) (L.E.pe hr (by rfl) (pa_cons (pv 13) (pa_cons (pv 13) (pa_cons (pv 13) pa_nil))))) pa_nil)) (by rfl))
    (pss_cons (ps_expr (pe_bm PySem.F.plainAttrs_list PySem.F.slot_list_append PySem.F.type_list_append mt_append (pv 13) (pa_cons pe_str pa_nil)) (by rfl))
    (pss_cons (ps_for PassesOwn.never rfl (pi_list (pv 7)) (pg_tup (n := 4) rfl (pgs_cons (pg_name (i := 9) scLaw.nd rfl (.inl rfl)) (pgs_cons (pg_name (i := 10) scLaw.nd rfl (.inl rfl)) (pgs_cons (pg_name (i := 11) scLaw.nd rfl (.inl rfl)) (pgs_cons (pg_name (i := 12) scLaw.nd rfl (.inl rfl)) pgs_nil)))))
        (pss_one (ps_if (PW.pt (pw_or (pt_not (pt_val (L.H.pe g r1 (by rfl) (pa_cons (pe_callV (i := 11) r2 (pa_cons (pv 9) pa_nil)) (pa_cons (pv 12) pa_nil))))) (pw_or1 (pt_not (pt_val (L.H.pe g r1 (by rfl) (pa_cons (pe_callV (i := 11) r2 (pa_cons (pv 10) pa_nil)) (pa_cons (pv 12) pa_nil)))))))) (pss_one (ps_ret pe_bl)) pss_nil)))
    (pss_cons (ps_set (i := 14) scLaw.nd rfl (.inl rfl) (pe_err0 PySem.F.excBase_ValueError L.eF L.kF L.gF (by rfl)))
    (pss_one (ps_ret (pe_and (pe_callB call_isX (by rfl) mi (by decide +kernel) (pa_cons (pv 14) (pa_cons (pe_bltn (v := .ty "ValueError") (by rfl) mv boot_valueE rfl) pa_nil)))
      (pe_one (pe_cmpR op_notIn_seq pe_bl (L.Q.pe r2 (by rfl) (pa_cons (pv 14) pa_nil)) (by rfl))))))))))))))), ?rest⟩
  case rest =>
    refine ⟨.ref a, rfl, a, ns, rfl, hS, hn, fun p l H1 sp1 pl st1 np0 nl0 => ?_⟩
    have z2 : 2 ≤ sizeLine := by decide
    have z1 : 1 ≤ sizeLine := by decide
    have z15 : 15 ≤ sizeLine := by decide
    refine ⟨1, rfl, z2, fun l1 h1 => ⟨z2, fun t1 h2 => fun d1 h3 => ⟨upd_same, [(.inr "a", .int 1)], rfl, by decide, ⟨z1, fun i1 h4 => ⟨z1, fun l2 h5 => ⟨10, 30, rfl, rfl, ⟨by decide, by decide, by decide⟩, ⟨z2, fun t2 h6 => ⟨z15, fun sm h7 => ?_⟩⟩⟩⟩⟩⟩⟩⟩
    have a1 := stay (u := .lst [.int 1, .str "b"]) h1
    have a2 := stay (u := .tup [.int 2, .non]) h2
    have a3 := stay2 (u := .dK []) (u' := .dK (mergeK [] [((.inr "a" : Key), V.int 1)])) h3
    have a4 := stay (u := .lst [.str "x"]) h4
    have a5 := stay (u := .lst [.ref i1]) h5
    have a6 := stay (u := .tup [.str "s", .int 3]) h6
    have a7 := stay (u := .lst [.non, .int 5, .int (-1), .bl true, .str "a", .str "", .ref l1, .ref t1, .ref d1, .ref l2, .int (10 ^ (30 : Int).toNat), .ref t2, .bl false, .int 0, .int 1]) h7
    obtain ⟨⟨pa, pb, pc, hp, hp'⟩, ms, hl, hl'⟩ := id sp1
    have np1 : p ≠ l1 ∧ l ≠ l1 := ⟨ne_of_none hp h1, ne_of_none hl h1⟩
    have np2 : p ≠ t1 ∧ l ≠ t1 := ⟨ne_of_none (a1 _ _ hp) h2, ne_of_none (a1 _ _ hl) h2⟩
    have np3 : p ≠ d1 ∧ l ≠ d1 := ⟨ne_of_none (a2 _ _ (a1 _ _ hp)) h3, ne_of_none (a2 _ _ (a1 _ _ hl)) h3⟩
    have np4 : p ≠ i1 ∧ l ≠ i1 := ⟨ne_of_none (a3 _ _ (a2 _ _ (a1 _ _ hp))) h4, ne_of_none (a3 _ _ (a2 _ _ (a1 _ _ hl))) h4⟩
    have np5 : p ≠ l2 ∧ l ≠ l2 := ⟨ne_of_none (a4 _ _ (a3 _ _ (a2 _ _ (a1 _ _ hp)))) h5, ne_of_none (a4 _ _ (a3 _ _ (a2 _ _ (a1 _ _ hl)))) h5⟩
    have np6 : p ≠ t2 ∧ l ≠ t2 := ⟨ne_of_none (a5 _ _ (a4 _ _ (a3 _ _ (a2 _ _ (a1 _ _ hp))))) h6, ne_of_none (a5 _ _ (a4 _ _ (a3 _ _ (a2 _ _ (a1 _ _ hl))))) h6⟩
    have np7 : p ≠ sm ∧ l ≠ sm := ⟨ne_of_none (a6 _ _ (a5 _ _ (a4 _ _ (a3 _ _ (a2 _ _ (a1 _ _ hp)))))) h7, ne_of_none (a6 _ _ (a5 _ _ (a4 _ _ (a3 _ _ (a2 _ _ (a1 _ _ hl)))))) h7⟩
    have all : ∀ b o, H1 b = some o → _ := fun b o e => a7 b o (a6 _ _ (a5 _ _ (a4 _ _ (a3 _ _ (a2 _ _ (a1 _ _ e))))))
    refine ⟨2, rfl, by decide, by decide, ?_⟩
    refine for_range (lo := 0) (n := 2) (Turn T p l sm _) ⟨rfl, rfl, rfl, spring_ext sp1 (.of all), fun q hq => ((tH q hq).ext st1).ext all, ?_, upd_same⟩ ?_ ?_
    · have dl1 := gh_of np1.1 np1.2 (a7 _ _ (a6 _ _ (a5 _ _ (a4 _ _ (a3 _ _ (a2 _ _ (upd_same (H := H1) (a := l1) (o := .lst [.int 1, .str "b"]))))))))
      have dt1 := gh_of np2.1 np2.2 (a7 _ _ (a6 _ _ (a5 _ _ (a4 _ _ (a3 _ _ upd_same)))))
      have dd1 := gh_of np3.1 np3.2 (a7 _ _ (a6 _ _ (a5 _ _ (a4 _ _ upd_same))))
      have di1 := gh_of np4.1 np4.2 (a7 _ _ (a6 _ _ (a5 _ _ upd_same)))
      have dl2 := gh_of np5.1 np5.2 (a7 _ _ (a6 _ _ upd_same))
      have dt2 := gh_of np6.1 np6.2 (a7 _ _ upd_same)
      exact .cons .non (.cons (.int 5) (.cons (.int (-1)) (.cons (.bl true) (.cons (.str _) (.cons (.str _) (.cons (.lst dl1 (.cons (.int 1) (.cons (.str _) .nil))) (.cons (.tup dt1 (.cons (.int 2) (.cons .non .nil))) (.cons (.dct dd1 (.int 1))
        (.cons (.lst dl2 (.cons (.lst di1 (.cons (.str _) .nil)) .nil)) (.cons (.int _) (.cons (.tup dt2 (.cons (.str _) (.cons (.int 3) .nil))) (.cons (.bl false) (.cons (.int 0) (.cons (.int 1) .nil))))))))))))))
    · rintro i σ H hi I
      exact turn_ok hi pl (Ne.symm np7.1) (Ne.symm np7.2) I.set3 L.cls fun σ' H' t => t
    · rintro σ H2 ⟨len, _, _, _, tb, _, _⟩
      refine ⟨z1, fun hd hh => ?_⟩
      have s13 : (σ.set 13 (some (V.ref hd)))[13]? = some (some (.ref hd)) := by rw [List.getElem?_set_self (by omega)]
      refine made_all (x := .ref hd) (y := .ref hd) (z := .ref hd) s13 s13 s13 (by rw [List.length_set]; omega) (by decide) (by decide) (by decide) (tabs_new tb hh) fun m us H3 e3 t3 hm am => ?_
      have h3 : H3 hd = some (.lst [.str "v"]) := e3 _ _ upd_same fun _ z => nomatch z
      have s13' : ((σ.set 13 (some (V.ref hd))).set 7 (some (V.ref m)))[13]? = some (some (.ref hd)) := by
        rw [List.getElem?_set_ne (by decide)]
        exact s13
      refine ⟨.ref hd, s13', .inl ⟨rfl, _, SqL.of h3⟩, hd, _, _, rfl, rfl, h3, by show 1 < sizeLine; decide, ?_⟩
      have lu : us.length = 83 := by
        have := am.len
        simpa only [specs, List.length_map, List.length_range'] using this
      have nm : m ≠ hd := fun z => by
        rw [z, h3] at hm
        have q := congrArg List.length (HO.lst.inj (Option.some.inj hm))
        rw [List.length_map, lu] at q
        cases q
      have nw : ∀ S ∈ specs Ca 0 83 (.ref hd) (.ref hd), S.ws ≠ [V.str "v"] := fun S hS z => by
        obtain ⟨j, _, e⟩ := List.mem_map.mp hS
        rw [← e] at z
        rcases spec_ws Ca j (.ref hd) (.ref hd) with q | q | q <;> (rw [q] at z; cases z)
      have am2 := AllMade.upd (o := .lst [.str "v", .str "w"]) h3 nw am
      have hd2 : Dq (upd H3 hd (.lst [.str "v", .str "w"])) (.ref hd) (.list [.str "v", .str "w"]) := .lst upd_same (.cons (.str _) (.cons (.str _) .nil))
      refine for2_ok (x := .ref hd) (y := .ref hd) (us := us) (m := m) (by simp only [List.length_set]; exact len) (by rw [List.getElem?_set_self (by rw [List.length_set]; omega)]) ((upd_ne nm).trans hm) am2 ⟨_, _, hd2, hd2, showsHeld1, showsHeld2⟩ fun σ4 H4 kk _ => ?_
      have l4 : σ4.length = 15 := by
        rw [kk.len]
        simp only [List.length_set]
        exact len
      refine fun bs hbs => ?_
      have s14 : (σ4.set 14 (some (V.ref bs)))[14]? = some (some (.ref bs)) := by rw [List.getElem?_set_self (by omega)]
      refine ⟨.ref bs, s14, bs, face, [], .ty "ValueError", .type "ValueError", true, rfl, .inl ⟨rfl, upd_same⟩, L.cF, fun u h => h, L.vF, true, rfl, iteT ?_⟩
      refine ⟨.ref bs, s14, bs, face, [], (fun _ => false), rfl, .inl ⟨rfl, upd_same⟩, L.cF, L.nF, fun q H5 _ _ e5 => ?_⟩
      refine ⟨q, _, rfl, .inl (SqL.of e5), rfl, by decide +kernel, ?_⟩
      rw [show inV (.bl true) ((List.range' 0 83).map fun j => V.bl ((fun _ => false) j)) = false by decide +kernel]
      exact k _
end
end K0
end T_K0LawE
section T_K0End
set_option Elab.async false
set_option linter.all false
set_option maxRecDepth 100000
set_option maxHeartbeats 4000000
/-! The law's end, its def promised only where no guard is open. -/
namespace K0
open PySem PySem.Spec PyProof.Rows L2 LamX NdefX LamV ErrX GuX
section
variable {P : Program} {w : World} {K : PySem.W.Frag} {mg mb : Str → Option Value} {k : Nat} {fa a : Addr} {tt : List (Addr × Addr)} {fd : FuncData} {x : Str} {sp : Sp} {s : Shared} {us : List Value} {zs : List Int}
/-- what is known of the state at the call -/
structure AtCall (K : PySem.W.Frag) (mg mb : Str → Option Value) (a : Addr) (tt : List (Addr × Addr)) (us : List Value) (s : Shared) : Prop where
  KX : K.In s.heap
  glo : s.heap.Ns mainGlobals mg
  blt : s.heap.Ns builtinsNs mb
  bb : ∀ y : Str, y ≠ "__name__" → mb y = bootBuiltins y
  lim : s.heap.NoLimit
  gen : s.gens = #[]
  tab : ∀ q ∈ tt, s.heap.get? q.2 = some { cls := .none, data := .fields #[] }
  noK : ∀ q ∈ tt, K.lookup q.2 = none
  hd : ∀ q ∈ tt, PySem.W.CodeHd s.heap q.1 q.2
  bm : ∃ (b : Addr) (o : Obj), mg "__builtins__" = some (.ref b) ∧ b ≠ builtinsNs ∧ s.heap.get? b = some o ∧ o.cls = .type "module" ∧ o.dict = some builtinsNs ∧ o.data = .plain
  at_ : s.heap.get? a = some { cls := .type "list", data := .seq us.toArray }
/-- the abstract heap at the call: the tables, and the script if it is not of the written part -/
structure Start (P : Program) (w : World) (K : PySem.W.Frag) (a : Addr) (tt : List (Addr × Addr)) (zs : List Int) (s : Shared) (H : Hp) : Prop where
  tbl : ∀ q ∈ tt, H q.2 = some (.tbl #[])
  cases_ : ∀ b, H b = none ∨ (b ∈ tt.map (·.2)) ∨ ∃ o ys, H b = some (.frz o (.lst ys))
  lst : SqL K H a (zs.map V.int)
  ok : HOk P w H s.heap
  only : ∀ b, H b ≠ none → b = a ∨ b ∈ tt.map (·.2)
  apart : H a ≠ none → K.lookup a = none
theorem AtCall.table (c : AtCall K mg mb a tt us s) {b : Addr} (h : b ∈ tt.map (·.2)) : s.heap.get? b = some { cls := .none, data := .fields #[] } := by
  obtain ⟨q, hq, rfl⟩ := List.mem_map.mp h
  exact c.tab q hq
theorem AtCall.aT (c : AtCall K mg mb a tt us s) : a ∉ tt.map (·.2) := fun h => by
  have e := (c.table h).symm.trans c.at_
  exact nomatch congrArg Obj.data (Option.some.inj e)
theorem Start.none_of (S : Start P w K a tt zs s H0) (c : AtCall K mg mb a tt us s) {b : Addr} {o : Obj} (e : s.heap.get? b = some o) (n1 : ∀ vs n, o.data ≠ .seq vs n) (n2 : o.data ≠ .fields #[]) : H0 b = none := by
  cases q : H0 b with
  | none => rfl
  | some u =>
    exfalso
    rcases S.only b (by rw [q]; exact fun z => nomatch z) with z | z
    · rw [z, c.at_] at e
      cases e
      exact n1 _ _ rfl
    · rw [c.table z] at e
      cases e
      exact n2 rfl
theorem call_from {H : Hp} (c : AtCall K mg mb a tt us s) (S : Start P w K a tt zs s H) (hr : Room k callerA)
    (F : ∀ base : Heap, K.In base → base.Ns mainGlobals mg → (∀ q ∈ tt, TabB base mg q.1 q.2) → FnG P w K mg base CX0 k fa fd [x] sp) (hb : ∀ (s : Shared) (u : Value), BindsTo s fd ⟨[u], []⟩ [(x, u)])
    (hsp : sp [.ref a] H (fun v _ => v = .bl true) fun _ _ _ => False) :
    codeAny (model P w) callerA (.call (.ref fa) ⟨[.ref a], []⟩) (fun r s' => r = .ok (.ret (.bool true)) ∧ OldK s.heap s'.heap ∧ s'.os = s.os ∧ AllBare s'.gens) s := by
  have keep : ∀ {b : Addr} {o : Obj}, s.heap.get? b = some o → (∀ vs n, o.data ≠ .seq vs n) → o.data ≠ .fields #[] → (hidT s.heap H).get? b = some o := fun e n1 n2 => hidT_get e (S.none_of c e n1 n2)
  have ns : ∀ {b : Addr} {m : Str → Option Value}, s.heap.Ns b m → (hidT s.heap H).Ns b m := fun {b m} h => by
    obtain ⟨o, es, ep, e, d, r⟩ := h
    refine ⟨o, es, ep, keep e (fun vs n z => ?_) (fun z => ?_), d, r⟩ <;> (rw [d] at z; cases z)
  have inK : K.In (hidT s.heap H) := fun b o e => by
    refine hidT_get (c.KX b o e) ?_
    cases q : H b with
    | none => rfl
    | some u =>
      exfalso
      have nn : H b ≠ none := by rw [q]; exact fun z => nomatch z
      rcases S.only b nn with z | z
      · have := S.apart (z ▸ nn)
        rw [← z, e] at this
        cases this
      · obtain ⟨p, hp, rfl⟩ := List.mem_map.mp z
        rw [c.noK p hp] at e
        cases e
  have md : L2.Mod K mg (hidT s.heap H) := by
    obtain ⟨mc, l1, l2⟩ := c.lim
    exact ⟨inK, ns c.glo, ⟨mb, ns c.blt, c.bb⟩, mc, ns l1, l2⟩
  have tb : ∀ q ∈ tt, TabB (hidT s.heap H) mg q.1 q.2 := fun q hq => by
    have t0 := c.tab q hq
    have nG : mainGlobals ≠ q.2 := fun z => by
      obtain ⟨o, es, ep, e, d, _⟩ := c.glo
      rw [z, t0] at e
      cases e
      cases d
    refine ⟨?_, ?_, nG⟩
    · obtain ⟨o, ws, file, tf, flags, tg, inF, text, u, e1, r1, r2, r3, rest⟩ := c.hd q hq
      refine ⟨o, ws, file, tf, flags, tg, inF, text, u, keep e1 (fun vs n z => ?_) (fun z => ?_), r1, r2, r3, rest⟩
      · rw [r2] at z
        cases z
      · rw [r2] at z
        cases z
        simp at r3
    · obtain ⟨b, o, b1, b2, b3, b4, b5, b6⟩ := c.bm
      have nb : b ≠ mainGlobals := fun z => by
        obtain ⟨o', es, ep, e, d, _⟩ := c.glo
        rw [z, e] at b3
        cases b3
        rw [d] at b6
        cases b6
      have nq : b ≠ q.2 := fun z => by
        rw [z, t0] at b3
        cases b3
        cases b6
      refine ⟨b, o, b1, b2, nb, nq, keep b3 (fun vs n z => ?_) (fun z => ?_), b4, b5, b6⟩ <;> (rw [b6] at z; cases z)
  have env : Env0 P w K mg (hidT s.heap H) callerA [] s H :=
    { frames := rfl, mod := md, bs := fun b o e => of_hidT e, bsz := Nat.le_of_eq (hidT_size _ _), funs := trivial, frf := (fun b z => nomatch (show b ∈ ([] : List Addr) from z)), hok := S.ok, bare := .of_eq c.gen }
  refine codeAny_mono ((F _ inK (ns c.glo) tb).go callerA [] s H ⟨[.ref a], []⟩ [.ref a] [.ref a] _ _ rfl hr env (hb s (.ref a)) (.cons rfl .nil) hsp) fun r s' h => ?_
  match r, h with
  | .error e, h => exact h.elim
  | .ok .next, h => exact h.elim
  | .ok .brk, h => exact h.elim
  | .ok .cont, h => exact h.elim
  | .ok (.ret u), h =>
    obtain ⟨v, H', os, bare, un, ok', rv, ev⟩ := h
    have ev' : v = .bl true := ev
    rw [ev'] at rv
    obtain rfl : u = Value.bool true := rv
    have old : ∀ b o, b ∉ tt.map (·.2) → s.heap.get? b = some o → s'.heap.get? b = some o := fun b o nb e => by
      rcases S.cases_ b with z | z | ⟨ob, ys, z⟩
      · exact un.keep b o e z (fun z => nomatch (show b ∈ ([] : List Addr) from z)) (fun z => nomatch z)
      · exact absurd z nb
      · obtain ⟨g1, _⟩ := S.ok b _ z
        obtain ⟨g2, _⟩ := ok' b _ (un.frzs b ob _ z)
        exact (Option.some.inj (g1.symm.trans e)) ▸ g2
    have more : ∀ q ∈ tt, ∃ m : Array Value, s'.heap.get? q.2 = some { cls := .none, data := .fields m } := fun q hq => by
      obtain ⟨m, z⟩ := un.tbls q.2 #[] (S.tbl q hq)
      exact ⟨_, ok' q.2 _ z⟩
    refine ⟨rfl, ⟨fun b o e => ?_, fun b o e => ?_⟩, os, bare⟩
    · by_cases m : b ∈ tt.map (·.2)
      · obtain ⟨q, hq, rfl⟩ := List.mem_map.mp m
        obtain ⟨m', hm⟩ := more q hq
        obtain rfl := Option.some.inj (e.symm.trans (c.tab q hq))
        refine .inr (.inl ⟨((c.hd q hq).tab (c.tab q hq)).isCodeTable, rfl, #[], m', rfl, ?_⟩)
        rw [Array.empty_append]
        exact hm
      · exact .inl (old b o m e)
    · by_cases m : b ∈ tt.map (·.2)
      · obtain ⟨q, hq, rfl⟩ := List.mem_map.mp m
        obtain ⟨m', hm⟩ := more q hq
        exact ⟨_, hm⟩
      · exact ⟨o, old b o m e⟩
theorem end_call (c : AtCall K mg mb a tt us s) (hi : IntsAre us zs) (hl : zs.length ≤ sizeLine) (hr : Room k callerA)
    (F : ∀ base : Heap, K.In base → base.Ns mainGlobals mg → (∀ q ∈ tt, TabB base mg q.1 q.2) → FnG P w K mg base CX0 k fa fd [x] sp) (hb : ∀ (s : Shared) (u : Value), BindsTo s fd ⟨[u], []⟩ [(x, u)])
    (hsp : ∀ H : Hp, (∀ q ∈ tt, H q.2 = some (.tbl #[])) → SqL K H a (zs.map V.int) → sp [.ref a] H (fun v _ => v = .bl true) fun _ _ _ => False) :
    codeAny (model P w) callerA (.call (.ref fa) ⟨[.ref a], []⟩) (fun r s' => r = .ok (.ret (.bool true)) ∧ OldK s.heap s'.heap ∧ s'.os = s.os ∧ AllBare s'.gens) s := by
  have rv := vals_ints hi
  have aT := c.aT
  have mem : ∀ q ∈ tt, q.2 ∈ tt.map (·.2) := fun q hq => List.mem_map.mpr ⟨q, hq, rfl⟩
  by_cases hk : K.lookup a = none
  · let H : Hp := fun b => if b = a then some (.frz { cls := .type "list", data := .seq us.toArray } (.lst (zs.map V.int))) else if b ∈ tt.map (·.2) then some (.tbl #[]) else none
    have ha : H a = some (.frz { cls := .type "list", data := .seq us.toArray } (.lst (zs.map V.int))) := if_pos rfl
    have hn : ∀ b, b ≠ a → H b = if b ∈ tt.map (·.2) then some (.tbl #[]) else none := fun b n => if_neg n
    have S : Start P w K a tt zs s H :=
      { tbl := fun q hq => (hn q.2 fun z => aT (z ▸ mem q hq)).trans (if_pos (mem q hq))
        cases_ := fun b => by
          by_cases e : b = a
          · exact .inr (.inr ⟨_, _, e ▸ ha⟩)
          · by_cases m : b ∈ tt.map (·.2)
            · exact .inr (.inl m)
            · exact .inl ((hn b e).trans (if_neg m))
        lst := .inl (.inr ⟨_, ha⟩)
        ok := fun b u z => by
          by_cases e : b = a
          · subst e
            obtain rfl := Option.some.inj (ha.symm.trans z)
            exact ⟨c.at_, by rw [List.length_map]; exact hl, us, _, rv, c.at_⟩
          · rw [hn b e] at z
            by_cases m : b ∈ tt.map (·.2)
            · rw [if_pos m] at z
              obtain rfl := Option.some.inj z
              exact c.table m
            · rw [if_neg m] at z
              cases z
        only := fun b z => by
          by_cases e : b = a
          · exact .inl e
          · refine .inr (Classical.byContradiction fun m => z ?_)
            rw [hn b e, if_neg m]
        apart := fun _ => hk }
    exact call_from c S hr F hb (hsp H S.tbl S.lst)
  · obtain ⟨o, ho⟩ := Option.ne_none_iff_exists'.mp hk
    obtain rfl := Option.some.inj ((c.KX a o ho).symm.trans c.at_)
    let H : Hp := fun b => if b ∈ tt.map (·.2) then some (.tbl #[]) else none
    have ha : H a = none := if_neg aT
    have S : Start P w K a tt zs s H :=
      { tbl := fun q hq => if_pos (mem q hq)
        cases_ := fun b => by
          by_cases m : b ∈ tt.map (·.2)
          · exact .inr (.inl m)
          · exact .inl (if_neg m)
        lst := .inr ⟨_, us.toArray, _, ho, rfl, rfl, rfl, by rw [List.size_toArray, hi.length]; exact hl, by simpa using rv⟩
        ok := fun b u z => by
          have z' : (if b ∈ tt.map (·.2) then some (HO.tbl #[]) else none) = some u := z
          by_cases m : b ∈ tt.map (·.2)
          · rw [if_pos m] at z'
            obtain rfl := Option.some.inj z'
            exact c.table m
          · rw [if_neg m] at z'
            cases z'
        only := fun b z => by
          refine .inr (Classical.byContradiction fun m => z ?_)
          exact if_neg m
        apart := fun z => absurd ha z }
    exact call_from c S hr F hb (hsp H S.tbl S.lst)
end
end K0
end T_K0End
section T_K0Facts
set_option Elab.async false
set_option linter.all false
set_option maxRecDepth 100000
set_option maxHeartbeats 4000000
/-! What the head tells of the classes. -/
namespace K0
open PySem PySem.Spec PyProof.Rows L2 LamX NdefX LamV ErrX
theorem ab {a b : Bool} (h : (a && b) = true) : a = true ∧ b = true := Bool.and_eq_true_iff.mp h
theorem m0 : grp0 ∈ gs := List.mem_cons_self
theorem mF : grpF ∈ gs := List.mem_cons_of_mem _ List.mem_cons_self
theorem mD {G : FM.Grp} (h : G ∈ gsD) : G ∈ gs := List.mem_cons_of_mem _ (List.mem_cons_of_mem _ (List.mem_append_left _ h))
theorem mC {r : Row} (h : r ∈ rows) : grpC r ∈ gs := List.mem_cons_of_mem _ (List.mem_cons_of_mem _ (List.mem_append_right _ (List.mem_map.mpr ⟨r, h, rfl⟩)))
/-- a class object at C with these bases -/
theorem cls_shape {K : PySem.W.Frag} {C : Addr} {tail : List Value} (h : (match K.lookup C with
  | some ⟨.type ty, _, .cls cd, sl⟩ => decide (ty = "type") && (match cd.mro, sl.toList with
    | .ref D :: bm, [_, _, _, _, some (.builtin n), _] => decide (D = C) && (decide (n = "ValueError.__new__") && (!cd.hasDel && (cd.hasDict && decide (bm = tail))))
    | _, _ => false)
  | _ => false) = true) : ∃ nm q N bs sn sub ab col dd k0 k1 k2 k3 k5, K.lookup C = some (excClassObj nm q C N bs tail true sn sub ab col dd k0 k1 k2 k3 k5 "ValueError.__new__") := by
  split at h
  · rename_i ty dd cd sl e
    obtain ⟨h1, h⟩ := ab h
    split at h
    · rename_i D bm k0 k1 k2 k3 n k5 hm hs
      obtain ⟨h2, h⟩ := ab h
      obtain ⟨h3, h⟩ := ab h
      obtain ⟨h4, h⟩ := ab h
      obtain ⟨h5, h6⟩ := ab h
      have e1 := of_decide_eq_true h1
      have e2 := of_decide_eq_true h2
      have e3 := of_decide_eq_true h3
      have e6 := of_decide_eq_true h6
      obtain ⟨nm, bs, mro, N, q, hd, sn, sub, ab', col, del⟩ := cd
      dsimp only at hm h4 h5
      have e4 : del = false := by simpa using h4
      obtain ⟨l⟩ := sl
      dsimp only at hs
      subst e1 e2 e3 e6 hm h5 e4 hs
      exact ⟨nm, q, N, bs, sn, sub, ab', col, dd, k0, k1, k2, k3, k5, e⟩
    · cases h
  · cases h
section
variable {K : PySem.W.Frag} {C face : Addr} {tail : List Value}
/-- what follows of a class object -/
structure Shape (K : PySem.W.Frag) (C : Addr) (tail : List Value) : Prop where
  cls : ∃ cd, PySem.W.clsIn K C = some cd ∧ cd.mro = .ref C :: tail ∧ cd.hasDict = true
  ty : PySem.W.typeIn K (.ref C) = some (.type "type")
theorem shape_of (h : ∃ nm q N bs sn sub ab col dd k0 k1 k2 k3 k5, K.lookup C = some (excClassObj nm q C N bs tail true sn sub ab col dd k0 k1 k2 k3 k5 "ValueError.__new__")) : Shape K C tail := by
  obtain ⟨nm, q, N, bs, sn, sub, ab, col, dd, k0, k1, k2, k3, k5, e⟩ := h
  refine ⟨⟨_, (by unfold PySem.W.clsIn; rw [e] : PySem.W.clsIn K C = some _), ?_, ?_⟩, ?_⟩
  · rfl
  · rfl
  · show (K.lookup C).map (·.cls) = _
    rw [e]
    rfl
theorem Shape.mro (S : Shape K C tail) (b : Value) : PySem.W.mroIn K C b = some ((Value.ref C :: tail).contains b) := by
  obtain ⟨cd, h1, h2, _⟩ := S.cls
  unfold PySem.W.mroIn
  rw [h1]
  show (if cd.mro.isEmpty then none else some (cd.mro.contains b)) = _
  rw [h2]
  rfl
theorem Shape.dict (S : Shape K C tail) : PySem.W.hasDictIn K C = true := by
  obtain ⟨cd, h1, _, h3⟩ := S.cls
  unfold PySem.W.hasDictIn
  rw [h1]
  exact h3
theorem kit_type (S : Shape K C tail) {X : String} (hm : PySem.W.kitMeta X = true) {b : Bool} (h : (Value.ref C :: tail).contains (.type X) = b) : PySem.W.kitOne K (.ref C) (.type X) = some b := by
  unfold PySem.W.kitOne
  have ne : (Value.ref C == Value.type X) = false := rfl
  rw [ne, if_neg Bool.false_ne_true]
  show (if PySem.W.kitMeta X = true then PySem.W.subIn K (.ref C) (.type X) else none) = _
  rw [if_pos hm]
  exact (S.mro _).trans (congrArg some h)
theorem kit_ref (S : Shape K C tail) {D : Addr} {t2 : List Value} (S2 : Shape K D t2) {b : Bool} (h : (Value.ref C :: tail).contains (.ref D) = b) : PySem.W.kitOne K (.ref C) (.ref D) = some b := by
  unfold PySem.W.kitOne
  by_cases e : C = D
  · subst e
    have q : (Value.ref C :: tail).contains (.ref C) = true := by simp
    rw [q] at h
    subst h
    rw [if_pos (beq_iff_eq.mpr rfl)]
  · have ne : (Value.ref C == Value.ref D) = false := beq_eq_false_iff_ne.mpr fun z => e (Value.ref.inj z)
    rw [ne, if_neg Bool.false_ne_true]
    obtain ⟨cd, h1, _, _⟩ := S2.cls
    show (if ((PySem.W.clsIn K D).isSome && PySem.W.typeIn K (.ref D) == some (.type "type")) = true then PySem.W.subIn K (.ref C) (.ref D) else none) = _
    rw [if_pos (by rw [h1, S2.ty]; rfl)]
    exact (S.mro _).trans (congrArg some h)
end
section
variable {C face : Addr}
theorem has_base : (Value.ref C :: Value.ref face :: PySem.HandSPX.veTail).contains (.type "BaseException") = true := rfl
theorem has_obj : (Value.ref C :: Value.ref face :: PySem.HandSPX.veTail).contains (.type "object") = true := rfl
theorem has_val : (Value.ref C :: Value.ref face :: PySem.HandSPX.veTail).contains (.type "ValueError") = true := rfl
theorem no_look : (Value.ref C :: Value.ref face :: PySem.HandSPX.veTail).contains (.type "LookupError") = false := rfl
theorem face_base : (Value.ref C :: PySem.HandSPX.veTail).contains (.type "BaseException") = true := rfl
theorem face_obj : (Value.ref C :: PySem.HandSPX.veTail).contains (.type "object") = true := rfl
theorem face_val : (Value.ref C :: PySem.HandSPX.veTail).contains (.type "ValueError") = true := rfl
theorem has_face : (Value.ref C :: Value.ref face :: PySem.HandSPX.veTail).contains (.ref face) = true := by simp
theorem has_cls {D : Addr} (n : D ≠ face) : (Value.ref C :: Value.ref face :: PySem.HandSPX.veTail).contains (.ref D) = decide (D = C) := by
  by_cases e : D = C
  · subst e
    simp
  · rw [decide_eq_false e]
    simp [e, n, PySem.HandSPX.veTail]
theorem face_cls {D : Addr} (n : D ≠ C) : (Value.ref C :: PySem.HandSPX.veTail).contains (.ref D) = false := by simp [n, PySem.HandSPX.veTail]
end
section
variable {g : Addr → Option Obj} {h : Heap} {mg : Str → Option Value}
abbrev KK (g : Addr → Option Obj) : PySem.W.Frag := FM.allG gs g
theorem glo_of {G : FM.Grp} (hG : G ∈ gs) (X : (KK g).In h) (N : h.Ns mainGlobals mg) {x : Str} (c : gloB g (He.frT g (G.as g)) x = true) : mg x = some (.ref (gA g x)) :=
  PySem.W.mg_of X N (FM.nsIn_up (FM.sub_all hG) (He.eqO_ok c))
structure Deep (K : PySem.W.Frag) : Prop where
  hn : PySem.W.specialIn K (.builtin "object.__class__") "__get__" = some (some (.builtin "getset_descriptor.__get__"))
  ht : PySem.W.takesIn K (.builtin "object.__class__") = some true
theorem grp0_of (e : FM.obsG gs g = FM.valG gs) (X : (KK g).In h) (N : h.Ns mainGlobals mg) : (rows.map fun r => gA g r.x).Nodup ∧ Frees mg ∧ mg "FaceError" = some (.ref (gA g "FaceError")) ∧ Deep (KK g) ∧ (∃ o, (KK g).lookup PySem.sysModules = some o) ∧ (tabNames.map (tabA g)).Nodup := by
  have c := FM.chk_of e m0
  have S := FM.sub_all (g := g) m0
  obtain ⟨c1, c⟩ := ab c
  obtain ⟨c2, c⟩ := ab c
  obtain ⟨c3, c⟩ := ab c
  obtain ⟨c4, c⟩ := ab c
  obtain ⟨c5, c⟩ := ab c
  obtain ⟨c6, c7⟩ := ab c
  refine ⟨of_decide_eq_true c1, fun x hx => PySem.W.mg_none_of X N (FM.nsIn_up S (He.eqO_ok (List.all_eq_true.mp c2 x hx))), glo_of m0 X N c3, ⟨FM.specialIn_up S (He.eqO_ok c4), FM.takesIn_up S (of_decide_eq_true c5)⟩, ?_, of_decide_eq_true c7⟩
  obtain ⟨o, ho⟩ := Option.isSome_iff_exists.mp c6
  exact ⟨o, S _ _ ho⟩
theorem face_of (e : FM.obsG gs g = FM.valG gs) (D : Deep (KK g)) : Shape (KK g) (gA g "FaceError") PySem.HandSPX.veTail ∧ PySem.W.keepIn (KK g) (.ref (gA g "FaceError")) = true ∧ ErrC (KK g) (gA g "FaceError") ∧ (∀ r ∈ rows, gA g r.x ≠ gA g "FaceError") ∧
    PySem.W.excIn (KK g) (gA g "FaceError") He.veBase "ValueError.__new__" = true := by
  have c := FM.chk_of e mF
  have S := FM.sub_all (g := g) mF
  obtain ⟨c1, c⟩ := ab c
  obtain ⟨c2, c⟩ := ab c
  obtain ⟨c3, c⟩ := ab c
  obtain ⟨c4, c⟩ := ab c
  obtain ⟨c5, c⟩ := ab c
  obtain ⟨c6, c7⟩ := ab c
  obtain ⟨nm, q, N, bs, sn, sub, ab', col, dd, k0, k1, k2, k3, k5, ho⟩ := cls_shape c1
  have sh : Shape (KK g) (gA g "FaceError") PySem.HandSPX.veTail := shape_of ⟨nm, q, N, bs, sn, sub, ab', col, dd, k0, k1, k2, k3, k5, S _ _ ho⟩
  obtain ⟨cd, h1, _, _⟩ := sh.cls
  refine ⟨sh, FM.keepIn_up S c2, ⟨by rw [h1]; rfl, ⟨FM.findIn_up S (He.eqO_ok c3), FM.findIn_up S (He.eqO_ok c4), (sh.mro _).trans (congrArg some face_base), sh.dict, FM.findIn_up S (He.eqO_ok c5), D.hn, D.ht, (sh.mro _).trans (congrArg some face_obj)⟩⟩, fun r hr z => ?_, FM.excIn_up S c7⟩
  exact of_decide_eq_true c6 (z ▸ List.mem_map.mpr ⟨r, hr, rfl⟩)
theorem cls_of (e : FM.obsG gs g = FM.valG gs) (X : (KK g).In h) (Nn : h.Ns mainGlobals mg) (D : Deep (KK g)) {r : Row} (hr : r ∈ rows) :
    ClsT (KK g) mg (gA g "FaceError") (gA g r.x) (initA g r.x) r ∧ Shape (KK g) (gA g r.x) (.ref (gA g "FaceError") :: PySem.HandSPX.veTail) := by
  have c := FM.chk_of e (mC hr)
  have S := FM.sub_all (g := g) (mC hr)
  obtain ⟨c1, c⟩ := ab c
  obtain ⟨c2, c⟩ := ab c
  obtain ⟨c3, c⟩ := ab c
  obtain ⟨c4, c⟩ := ab c
  obtain ⟨c5, c⟩ := ab c
  obtain ⟨c6, c⟩ := ab c
  obtain ⟨c7, c⟩ := ab c
  obtain ⟨c8, c9⟩ := ab c
  obtain ⟨nm, q, N, bs, sn, sub, ab', col, dd, k0, k1, k2, k3, k5, ho⟩ := cls_shape c1
  have ho2 := S _ _ ho
  have sh : Shape (KK g) (gA g r.x) (.ref (gA g "FaceError") :: PySem.HandSPX.veTail) := shape_of ⟨nm, q, N, bs, sn, sub, ab', col, dd, k0, k1, k2, k3, k5, ho2⟩
  obtain ⟨cd, h1, h2, _⟩ := sh.cls
  have ga := FM.findIn_up S (He.eqO_ok c5)
  have gg := FM.findIn_up S (He.eqO_ok c6)
  have be : PySem.W.subIn (KK g) (.ref (gA g r.x)) (.type "BaseException") = some true := (sh.mro _).trans (congrArg some has_base)
  refine ⟨⟨PySem.W.mg_of X Nn (FM.nsIn_up S (He.eqO_ok c2)), ⟨⟨nm, q, N, bs, _, sn, sub, ab', col, dd, k0, k1, k2, k3, k5, ho2, rfl⟩, FM.findIn_up S (He.eqO_ok c4), be, sh.ty, FM.keepIn_up S c3⟩, ⟨ga, gg, be, sh.dict⟩,
    ⟨by rw [h1]; rfl, ⟨ga, gg, be, sh.dict, FM.findIn_up S (He.eqO_ok c7), D.hn, D.ht, (sh.mro _).trans (congrArg some has_obj)⟩⟩, fun n hn => FM.findIn_up S (He.eqO_ok (List.all_eq_true.mp c8 n hn)), fun nf => ?_, fun nf => ?_, ⟨cd, h1, h2⟩, sh.ty⟩, sh⟩
  · obtain ⟨i, x, fs⟩ := r
    cases fs with
    | nil => exact absurd rfl nf
    | cons f fs =>
      obtain ⟨d1, c9⟩ := ab c9
      obtain ⟨d2, d3⟩ := ab c9
      obtain ⟨fd, F⟩ := FM.def_of e (mC hr) (d := dInit i x) List.mem_cons_self
      have F2 := FM.funD_up S F
      rw [show He.fAd (He.frT g ((grpC ⟨i, x, f :: fs⟩).as g)) (dInit i x).at_ = initA g x from of_decide_eq_true d3] at F2
      exact ⟨FM.findIn_up S (He.eqO_ok d1), FM.typeIn_up S (by simpa [PySem.W.isFn] using d2), fd, F2⟩
  · rw [nf] at c9
    exact FM.excIn_up S c9
end
end K0
end T_K0Facts
section T_K0Glue
set_option Elab.async false
set_option linter.all false
set_option maxRecDepth 100000
set_option maxHeartbeats 4000000
/-! From what the head tells to all that the law calls. -/
namespace K0
open PySem PySem.Spec PyProof.Rows L2 LamX NdefX LamV ErrX GuX
theorem inj_of {α β : Type} {f : α → β} : ∀ {l : List α}, (l.map f).Nodup → ∀ {x y : α}, x ∈ l → y ∈ l → f x = f y → x = y
  | [], _, _, _, h, _, _ => by cases h
  | a :: l, n, x, y, hx, hy, e => by
    have n' : (f a :: l.map f).Nodup := n
    obtain ⟨n1, n2⟩ := List.nodup_cons.mp n'
    rcases List.mem_cons.mp hx with h1 | h1
    · rcases List.mem_cons.mp hy with h2 | h2
      · rw [h1, h2]
      · exact absurd (List.mem_map.mpr ⟨y, h2, by rw [← e, h1]⟩) n1
    · rcases List.mem_cons.mp hy with h2 | h2
      · exact absurd (List.mem_map.mpr ⟨x, h1, by rw [e, h2]⟩) n1
      · exact inj_of n2 h1 h2 e
section
variable {g : Addr → Option Obj} {h : Heap} {mg : Str → Option Value} {K : PySem.W.Frag}
theorem binds_of {x : Str} {st : Stmt} {f : Addr} {fd : FuncData} {ps : List Str} (F : FunD K x x (defArgs st) (defBody st) (defScope st) [] [] f fd)
    (hb : ∀ (kV doc pm : Value) (an : Option Addr) (cdv ct : Value) (us : List Value), us.length = ps.length → bindArgs (PySem.W.fnOf x x (defArgs st) (defBody st) (defScope st) .none kV doc pm an cdv ct) ⟨us, []⟩ = pure (ps.zip us)) : L2.Binds K fd ps [] := by
  obtain ⟨oc, od, dV, kV, doc, pm, an, cdv, ct, osl, rfl, lk, hc, hD, hK⟩ := F.ex
  obtain rfl : dV = .none := hD.elim (fun h => h.2) fun h => absurd rfl h.1
  exact .all fun us hl => hb kV doc pm an cdv ct us hl
theorem binds_law {f : Addr} {fd : FuncData} (F : FunD K "law" "law" (defArgs sLaw) (defBody sLaw) (defScope sLaw) [] [] f fd) : ∀ (s : Shared) (u : Value), BindsTo s fd ⟨[u], []⟩ [("script", u)] := by
  obtain ⟨oc, od, dV, kV, doc, pm, an, cdv, ct, osl, rfl, lk, hc, hD, hK⟩ := F.ex
  obtain rfl : dV = .none := hD.elim (fun h => h.2) fun h => absurd rfl h.1
  exact fun s u => .of_eq rfl
theorem ga_eq {K : PySem.W.Frag} {x : Str} (c : gloB g K x = true) : He.ga K x = gA g x := by
  have e := He.eqO_ok c
  unfold He.ga
  rw [e]
theorem def_at (e : FM.obsG gs g = FM.valG gs) (X : (KK g).In h) (N : h.Ns mainGlobals mg) {i : Nat} {x : Str} (m : grpD i x ∈ gsD) : ∃ fd, FunD (KK g) x x (defArgs (top i)) (defBody (top i)) (defScope (top i)) [] [] (gA g x) fd ∧ mg x = some (.ref (gA g x)) := by
  have c : gloB g (He.frT g ((grpD i x).as g)) x = true := FM.chk_of e (mD m)
  obtain ⟨fd, F⟩ := FM.def_of e (mD m) (d := dDef i x) List.mem_cons_self
  have F2 := FM.funD_up (FM.sub_all (g := g) (mD m)) F
  rw [show He.fAd (He.frT g ((grpD i x).as g)) (dDef i x).at_ = gA g x from ga_eq c] at F2
  exact ⟨fd, F2, glo_of (mD m) X N c⟩
abbrev cdA (g : Addr → Option Obj) (x : Str) : Addr := (He.cT (He.frT g (asD x g)) (x, none)).1
theorem tab_at (e : FM.obsG gs g = FM.valG gs) (X : (KK g).In h) (N : h.Ns mainGlobals mg) {i : Nat} {x : Str} (m : grpT i x ∈ gsD) : ∃ fd, FunD (KK g) x x (defArgs (top i)) (defBody (top i)) (defScope (top i)) [] [] (gA g x) fd ∧ mg x = some (.ref (gA g x)) ∧
    fd.code = .ref (cdA g x) ∧ PySem.W.codeHdIn (KK g) (cdA g x) (tabA g x) = true ∧ ∃ o, g (tabA g x) = some o ∧ He.emptyTab o = true := by
  have c := FM.chk_of e (mD m)
  obtain ⟨c1, c2⟩ := ab c
  obtain ⟨c2, c3⟩ := ab c2
  have S := FM.sub_all (g := g) (mD m)
  obtain ⟨fd, F⟩ := FM.def_of e (mD m) (d := dDef i x) List.mem_cons_self
  have F2 := FM.funD_up S F
  have ea : He.fAd (He.frT g ((grpT i x).as g)) (dDef i x).at_ = gA g x := ga_eq c1
  rw [ea] at F2
  refine ⟨fd, F2, glo_of (mD m) X N c1, ?_, FM.codeHdIn_up S c2, ?_⟩
  · obtain ⟨oc, od, dV, kV, doc, pm, an, cdv, ct, osl, rfl, lk, hc, _⟩ := F.ex
    obtain ⟨cc, rfl⟩ := He.codeIn_ref hc
    have q : He.codeOf (He.frT g (asD x g)) (x, none) = cc := He.codeOf_eq lk rfl
    show Value.ref cc = .ref (He.codeOf (He.frT g (asD x g)) (x, none))
    rw [q]
  · have c3' : (match g (tabA g x) with
      | some o => He.emptyTab o
      | none => false) = true := c3
    cases q : g (tabA g x) with
    | none =>
      rw [q] at c3'
      cases c3'
    | some o =>
      rw [q] at c3'
      exact ⟨o, rfl, c3'⟩
abbrev CaG (g : Addr → Option Obj) (j : Nat) : Addr := gA g ((rows[j]?).getD rowF).x
abbrev FaG (g : Addr → Option Obj) (j : Nat) : Addr := initA g ((rows[j]?).getD rowF).x
abbrev TTg (g : Addr → Option Obj) : List (Addr × Str) := tabNames.map fun x => (tabA g x, lamQ x)
abbrev ttg (g : Addr → Option Obj) : List (Addr × Addr) := tabNames.map fun x => (cdA g x, tabA g x)
theorem rows_len : rows.length = 83 := rfl
theorem classes_of (e : FM.obsG gs g = FM.valG gs) (X : (KK g).In h) (N : h.Ns mainGlobals mg) (D : Deep (KK g)) : Classes (KK g) mg (gA g "FaceError") (CaG g) (FaG g) := fun j r hr => by
  have q := (cls_of e X N D (List.mem_of_getElem? hr)).1
  have e1 : (rows[j]?).getD rowF = r := by rw [hr]; rfl
  unfold CaG FaG
  rw [e1]
  exact q
theorem kinds_of (e : FM.obsG gs g = FM.valG gs) (X : (KK g).In h) (N : h.Ns mainGlobals mg) (D : Deep (KK g)) (nd : (rows.map fun r => gA g r.x).Nodup) (nf : ∀ r ∈ rows, gA g r.x ≠ gA g "FaceError") {j : Nat} (hj : j < 83) :
    ErrC (KK g) (CaG g j) ∧ OwnC (KK g) mg (CaG g j) ∧ Kinds (KK g) mg (CaG g) (CaG g j) fun i => decide (i = j) := by
  have hj' : j < rows.length := by rw [rows_len]; exact hj
  have hr : rows[j]? = some rows[j] := List.getElem?_eq_getElem hj'
  have ej : (rows[j]?).getD rowF = rows[j] := by rw [hr]; rfl
  have mj := List.mem_of_getElem? hr
  obtain ⟨c1, s1⟩ := cls_of e X N D mj
  have gF := (grp0_of e X N).2.2.1
  obtain ⟨sF, _⟩ := face_of e D
  unfold CaG
  rw [ej]
  refine ⟨c1.ec, ⟨⟨_, gF, kit_ref s1 sF has_face⟩, kit_type s1 (by decide +kernel) has_val, kit_type s1 (by decide +kernel) no_look⟩, fun i r hi => ?_⟩
  have ei : (rows[i]?).getD rowF = r := by rw [hi]; rfl
  have mi := List.mem_of_getElem? hi
  obtain ⟨c2, s2⟩ := cls_of e X N D mi
  dsimp only
  rw [ei]
  refine ⟨c2.gC, ?_⟩
  refine (kit_ref s1 s2 (has_cls (nf r mi))).trans (congrArg some ?_)
  by_cases q : i = j
  · subst q
    rw [hr] at hi
    rw [Option.some.inj hi]
    simp
  · rw [decide_eq_false q, decide_eq_false]
    intro z
    have hi' : i < rows.length := (List.getElem?_eq_some_iff.mp hi).1
    refine q ((List.getElem?_inj (by rw [List.length_map]; exact hi') nd).mp ?_)
    rw [List.getElem?_map, List.getElem?_map, hi, hr]
    exact congrArg some z
end
end K0
end T_K0Glue
section T_K0Fin
set_option Elab.async false
set_option linter.all false
set_option maxRecDepth 100000
set_option maxHeartbeats 4000000
namespace K0
open PySem PySem.Spec PyProof.Rows L2 LamX NdefX LamV ErrX GuX
section
variable {g : Addr → Option Obj} {h : Heap} {mg : Str → Option Value}
theorem tt_hu (nd : (tabNames.map (tabA g)).Nodup) {x : Str} (hx : x ∈ tabNames) : ∀ p ∈ TTg g, p.1 = tabA g x → p.2 = lamQ x := fun p hp ep => by
  obtain ⟨y, hy, rfl⟩ := List.mem_map.mp hp
  rw [inj_of nd hy hx ep]
theorem tt_mem {x : Str} (hx : x ∈ tabNames) : (tabA g x, lamQ x) ∈ TTg g := List.mem_map.mpr ⟨x, hx, rfl⟩
theorem lawE_of {P : Program} {w : World} {base : Heap} (e : FM.obsG gs g = FM.valG gs) (X : (KK g).In h) (N : h.Ns mainGlobals mg) (TB : ∀ q ∈ ttg g, TabB base mg q.1 q.2) :
    Nonempty (LawE P w (KK g) mg base (TTg g) (CaG g) (gA g "FaceError")) := by
  obtain ⟨nd, fr, gF, D, ⟨sy, sys⟩, ndT⟩ := grp0_of e X N
  obtain ⟨sF, kF, cF, nf, eF⟩ := face_of e D
  have cT := classes_of e X N D
  obtain ⟨dS, FS, gS⟩ := def_at e X N (List.mem_of_getElem? (i := 0) rfl : grpD 86 "_law_start" ∈ gsD)
  obtain ⟨dW, FW, gW⟩ := def_at e X N (List.mem_of_getElem? (i := 1) rfl : grpD 87 "_law_draw" ∈ gsD)
  obtain ⟨dM, FM', gM⟩ := def_at e X N (List.mem_of_getElem? (i := 2) rfl : grpD 88 "_law_mixed" ∈ gsD)
  obtain ⟨da, Fa, ga, ca, _⟩ := tab_at e X N (List.mem_of_getElem? (i := 3) rfl : grpT 89 "_law_made_a" ∈ gsD)
  obtain ⟨db, Fb, gb, cb, _⟩ := tab_at e X N (List.mem_of_getElem? (i := 4) rfl : grpT 90 "_law_made_b" ∈ gsD)
  obtain ⟨dc, Fc, gc, cc, _⟩ := tab_at e X N (List.mem_of_getElem? (i := 5) rfl : grpT 91 "_law_made_c" ∈ gsD)
  obtain ⟨dd, Fd, gd, cd, _⟩ := tab_at e X N (List.mem_of_getElem? (i := 6) rfl : grpT 92 "_law_made_d" ∈ gsD)
  obtain ⟨de, Fe, ge, ce, _⟩ := tab_at e X N (List.mem_of_getElem? (i := 7) rfl : grpT 93 "_law_made_e" ∈ gsD)
  obtain ⟨d1, F1, g1⟩ := def_at e X N (List.mem_of_getElem? (i := 8) rfl : grpD 94 "_law_kinds_a" ∈ gsD)
  obtain ⟨d2, F2, g2⟩ := def_at e X N (List.mem_of_getElem? (i := 9) rfl : grpD 95 "_law_kinds_b" ∈ gsD)
  obtain ⟨d3, F3, g3⟩ := def_at e X N (List.mem_of_getElem? (i := 10) rfl : grpD 96 "_law_kinds_c" ∈ gsD)
  obtain ⟨d4, F4, g4⟩ := def_at e X N (List.mem_of_getElem? (i := 11) rfl : grpD 97 "_law_kinds_d" ∈ gsD)
  obtain ⟨d5, F5, g5⟩ := def_at e X N (List.mem_of_getElem? (i := 12) rfl : grpD 98 "_law_kinds_e" ∈ gsD)
  obtain ⟨dk, Fk, gk⟩ := def_at e X N (List.mem_of_getElem? (i := 13) rfl : grpD 99 "_law_kinds" ∈ gsD)
  obtain ⟨dO, FO, gO⟩ := def_at e X N (List.mem_of_getElem? (i := 14) rfl : grpD 100 "_law_is_own" ∈ gsD)
  obtain ⟨dH, FH, gH⟩ := def_at e X N (List.mem_of_getElem? (i := 15) rfl : grpD 101 "_law_are_these" ∈ gsD)
  have ma : ("_law_made_a" : Str) ∈ tabNames := List.mem_of_getElem? (i := 0) rfl
  have mb : ("_law_made_b" : Str) ∈ tabNames := List.mem_of_getElem? (i := 1) rfl
  have mc : ("_law_made_c" : Str) ∈ tabNames := List.mem_of_getElem? (i := 2) rfl
  have md : ("_law_made_d" : Str) ∈ tabNames := List.mem_of_getElem? (i := 3) rfl
  have me : ("_law_made_e" : Str) ∈ tabNames := List.mem_of_getElem? (i := 4) rfl
  have tb : ∀ {x : Str}, x ∈ tabNames → TabB base mg (cdA g x) (tabA g x) := fun {x} hx => TB _ (List.mem_map.mpr ⟨x, hx, rfl⟩)
  have bW : L2.Binds (KK g) dW ["stream", "many"] [] := binds_of FW fun _ _ _ _ _ _ us hl => match us, hl with | [_, _], _ => rfl
  have bk : L2.Binds (KK g) dk ["e"] [] := binds_of Fk fun _ _ _ _ _ _ us hl => match us, hl with | [_], _ => rfl
  have GK : FnOk P w (KK g) mg base CX0 2 (gA g "_law_kinds") dk ["e"] (spKinds (KK g) mg (CaG g) 0 83) := ok_kinds Fk fr ⟨g1, _, F1⟩ ⟨g2, _, F2⟩ ⟨g3, _, F3⟩ ⟨g4, _, F4⟩ ⟨g5, _, F5⟩
  exact ⟨{
    fr := fr
    fS := gA g "_law_start"
    dS := dS
    S := ⟨ok_start FS fr, gS, FS.kp, binds_of FS fun _ _ _ _ _ _ us hl => match us, hl with | [_], _ => rfl⟩
    fM := gA g "_law_mixed"
    dM := dM
    M := ⟨ok_mixed FM' FW gW bW fr, gM, FM'.kp, binds_of FM' fun _ _ _ _ _ _ us hl => match us, hl with | [_, _], _ => rfl⟩
    fa := gA g "_law_made_a"
    da := da
    A := ⟨ok_made_a Fa ca (tb ma) (tt_mem ma) (tt_hu ndT ma) cT, ga, Fa.kp, binds_of Fa fun _ _ _ _ _ _ us hl => match us, hl with | [_, _, _], _ => rfl⟩
    fb := gA g "_law_made_b"
    db := db
    B := ⟨ok_made_b Fb cb (tb mb) (tt_mem mb) (tt_hu ndT mb) cT, gb, Fb.kp, binds_of Fb fun _ _ _ _ _ _ us hl => match us, hl with | [_, _, _], _ => rfl⟩
    fc := gA g "_law_made_c"
    dc := dc
    C := ⟨ok_made_c Fc cc (tb mc) (tt_mem mc) (tt_hu ndT mc) cT, gc, Fc.kp, binds_of Fc fun _ _ _ _ _ _ us hl => match us, hl with | [_, _, _], _ => rfl⟩
    fd := gA g "_law_made_d"
    dd := dd
    D := ⟨ok_made_d Fd cd (tb md) (tt_mem md) (tt_hu ndT md) cT, gd, Fd.kp, binds_of Fd fun _ _ _ _ _ _ us hl => match us, hl with | [_, _, _], _ => rfl⟩
    fe := gA g "_law_made_e"
    de := de
    E := ⟨ok_made_e Fe ce (tb me) (tt_mem me) (tt_hu ndT me) cT, ge, Fe.kp, binds_of Fe fun _ _ _ _ _ _ us hl => match us, hl with | [_, _, _], _ => rfl⟩
    fo := gA g "_law_is_own"
    do_ := dO
    O := ⟨ok_own FO fr GK gk Fk bk, gO, FO.kp, binds_of FO fun _ _ _ _ _ _ us hl => match us, hl with | [_, _], _ => rfl⟩
    ft := gA g "_law_are_these"
    dt := dH
    H := ⟨ok_these FH fr sys, gH, FH.kp, binds_of FH fun _ _ _ _ _ _ us hl => match us, hl with | [_, _], _ => rfl⟩
    fk := gA g "_law_kinds"
    dk := dk
    Q := ⟨GK, gk, Fk.kp, bk⟩
    cls := fun j hj => kinds_of e X N D nd nf hj
    gF := gF
    eF := eF
    kF := kF
    cF := cF
    vF := kit_type sF (by decide +kernel) face_val
    nF := fun i r hi => by
      have ei : (rows[i]?).getD rowF = r := by rw [hi]; rfl
      have mi := List.mem_of_getElem? hi
      obtain ⟨c2, s2⟩ := cls_of e X N D mi
      show KindX (KK g) mg (gA g "FaceError") (gA g ((rows[i]?).getD rowF).x) r.x false
      rw [ei]
      exact ⟨c2.gC, kit_ref sF s2 (face_cls (nf r mi))⟩ }⟩
end
end K0
end T_K0Fin
section T_K0Walk
set_option Elab.async false
set_option linter.all false
set_option maxRecDepth 100000
set_option maxHeartbeats 4000000
namespace K0
open PySem PySem.Spec PyProof.Rows L2 LamX NdefX LamV ErrX GuX
abbrev theL : PySem.W.OpenLaw := PySem.Challenge.rw_lastfaces_k00_errors_made
theorem room_top : Room 5 callerA := ⟨rfl, by decide, by decide⟩
theorem walk : PySem.W.WalkO (PySem.W.view R.prog [102]) names (PySem.W.XL (PySem.W.view R.prog [102]) []) hk.says theL.row.toRowW (HandSHeadRun.topDef R.prog 102) [] (fun f vs => PySem.call f vs) := by
  refine Att.attach_callB (l := theL) (n := 63) (d := HandSHeadRun.topDef R.prog 102) rfl (by kernel_rfl) fun w s₀ s mg mb fa o pm cd doc a us zs G Y ho hd hcd hmg hobj hints hlen hbits hg => ?_
  obtain ⟨h0, kp, e⟩ := Y
  have X : (KK h0.get?).In s.heap := fun b o q => kp _ _ (He.frT_in b o q)
  have nm : (HandSHeadRun.topDef R.prog 102).name = ("law" : Str) := by kernel_rfl
  rw [nm] at hmg
  obtain ⟨fd, FL, gL⟩ := def_at e X G.T.g (List.mem_of_getElem? (i := 16) rfl : grpD 102 "law" ∈ gsD)
  obtain rfl : fa = gA h0.get? "law" := Value.ref.inj (Option.some.inj (hmg.symm.trans gL))
  have tabs : ∀ q ∈ ttg h0.get?, PySem.W.codeHdIn (KK h0.get?) q.1 q.2 = true ∧ ∃ o, h0.get? q.2 = some o ∧ He.emptyTab o = true := fun q hq => by
    obtain ⟨x, hx, rfl⟩ := List.mem_map.mp hq
    have one : ∀ {i : Nat} {x : Str}, grpT i x ∈ gsD → PySem.W.codeHdIn (KK h0.get?) (cdA h0.get? x) (tabA h0.get? x) = true ∧ ∃ o, h0.get? (tabA h0.get? x) = some o ∧ He.emptyTab o = true := fun m => (tab_at e X G.T.g m).choose_spec.2.2.2
    rcases List.mem_cons.mp hx with rfl | hx
    · exact one (List.mem_of_getElem? (i := 3) rfl : grpT 89 _ ∈ gsD)
    rcases List.mem_cons.mp hx with rfl | hx
    · exact one (List.mem_of_getElem? (i := 4) rfl : grpT 90 _ ∈ gsD)
    rcases List.mem_cons.mp hx with rfl | hx
    · exact one (List.mem_of_getElem? (i := 5) rfl : grpT 91 _ ∈ gsD)
    rcases List.mem_cons.mp hx with rfl | hx
    · exact one (List.mem_of_getElem? (i := 6) rfl : grpT 92 _ ∈ gsD)
    rcases List.mem_cons.mp hx with rfl | hx
    · exact one (List.mem_of_getElem? (i := 7) rfl : grpT 93 _ ∈ gsD)
    cases hx
  have at_ : AtCall (KK h0.get?) mg mb a (ttg h0.get?) us s :=
    { KX := X
      glo := G.T.g
      blt := G.T.b
      bb := G.T.builtins
      lim := G.T.nolimit
      gen := hg
      tab := fun q hq => by
        obtain ⟨_, o, h1, h2⟩ := tabs q hq
        rw [kp _ _ h1, He.emptyTab_eq h2]
      noK := fun q hq => by
        obtain ⟨_, o, h1, h2⟩ := tabs q hq
        exact He.frT_none h1 h2
      hd := fun q hq => PySem.W.codeHd_of_K X (tabs q hq).1
      bm := G.T.bmain
      at_ := hobj }
  refine end_call (P := theL.prog) (x := "script") (sp := spLaw (KK h0.get?) (TTg h0.get?)) (k := 5) (fd := fd) at_ hints (Nat.le_trans hlen (by decide)) room_top (fun base _ _ TB => ?_) (binds_law FL) fun H ht hS => ?_
  · obtain ⟨L⟩ := lawE_of (P := theL.prog) (w := w) (base := base) e X G.T.g TB
    exact ok_law FL L
  · refine ⟨a, zs, rfl, hS, hlen, fun p hp => ?_, fun _ => rfl⟩
    obtain ⟨x, hx, rfl⟩ := List.mem_map.mp hp
    exact ⟨#[], ht (cdA h0.get? x, tabA h0.get? x) (List.mem_map.mpr ⟨x, hx, rfl⟩), trivial, fun pos cv hc => nomatch hc⟩
end K0
end T_K0Walk
set_option Elab.async false
set_option linter.all false
set_option maxRecDepth 100000
set_option maxHeartbeats 0
open PySem PySem.W PySem.Calls PyProof.Rows
theorem PySem.Challenge.cw_lastfaces_k00_errors_made_holds : PySem.Challenge.rw_lastfaces_k00_errors_made.Holds := by
  w_on; o_law
  refine holds_open (r := K0.R) (q := K0.Mid.qV) (loose := K0.names) (XP := XL K0.Mid.qV []) (YP := K0.hk.says) (d := HandSHeadRun.topDef K0.R.prog 102) (kwd := []) K0.Mid.left K0.hk.of K0.hk.keeps (fun s z => xl_of s (Bool.and_eq_true_iff.mp z).1) XL.keeps
    (by kernel_rfl) (by kernel_rfl) (by kernel_rfl) (fun s z => recFacts_of (Bool.and_eq_true_iff.mp z).2) (by rfl) (by first | assumption | decide +kernel) (by decide +kernel) ⟨rfl, rfl, rfl, rfl, rfl, by decide +kernel⟩ ?hw ?hc
  case hw => w_witness2
  case hc => exact K0.walk
