import PyProof.Rows.All
import Wide.All
import OpenK.AllK
import Wide.FinOn
import HandS.ForMost
import HandS.More
import HandS.FStr
import HandS.IsInst
import HandS.Codes
import HandS.Walk
import HandS.RaiseMore
import HandS.Text
import HandS.ReplaceList
import HandS.Strs
import HandS.SetBool
import HandS.SetKeys
import HandS.DictComp
import KE.KCallOwn
import HandS.OwnEq
import PyProof.ReprRoads
import PyProof.StrLawsRepr
import PyProof.FitsInt
import PyProof.NeKinds
import PyProof.Draws
import PyProof.EnumMake
import HandS.Replace
import KE.SortData
import HandS.Zip
import HandS.TupAny
import HandS.NoneIn
import HandS.Deep
import PySem.Challenge.RW_stealhall_k06_whole_brackets_wanted
set_option Elab.async false
set_option linter.all false
set_option maxRecDepth 100000
/-! Expressions: what they are, their text, how they lie in the heap. -/
namespace SH
open PySem L2
inductive Sg where
  | add | sub | mul | lt | eq
def Sg.txt : Sg → Str
  | .add => "+"
  | .sub => "-"
  | .mul => "*"
  | .lt => "<"
  | .eq => "=="
def Sg.lv : Sg → Int
  | .add => 2
  | .sub => 2
  | .mul => 3
  | .lt => 1
  | .eq => 1
inductive Ex where
  | num (n : Int)
  | nam (s : Str)
  | op (g : Sg) (l r : Ex)
def Ex.lv : Ex → Int
  | .num _ => 4
  | .nam _ => 4
  | .op g _ _ => g.lv
def Ex.lw : Ex → Int
  | .num _ => 9
  | .nam _ => 9
  | .op g _ _ => g.lv
def br (b : Bool) (t : Str) : Str := if b = true then ("(" : Str) ++ t ++ (")" : Str) else t
def lB (g : Sg) (l : Ex) : Bool := decide (l.lv < g.lv) || decide (l.lv = 1)
def rB (g : Sg) (r : Ex) : Bool := decide (r.lv ≤ g.lv)
def Ex.txt : Ex → Str
  | .num n => (toString n : String)
  | .nam s => s
  | .op g l r => br (lB g l) l.txt ++ (" " : Str) ++ g.txt ++ (" " : Str) ++ br (rB g r) r.txt
/-- at most n deep, its parts within bounds -/
def Ex.ok : Nat → Ex → Prop
  | 0, _ => False
  | _ + 1, .num n => n.natAbs.log2 < 1920
  | _ + 1, .nam s => s.length ≤ 2000
  | n + 1, .op _ l r => Ex.ok n l ∧ Ex.ok n r
def lenB : Nat → Nat
  | 0 => 2000
  | n + 1 => 2 * lenB n + 2000
theorem app_len (a b : Str) : (a ++ b).length = a.length + b.length := by
  show (a.cps ++ b.cps).size = _
  rw [Array.size_append]
  all_goals rfl
theorem emp_app (a : Str) : Str.empty ++ a = a := by
  show (⟨#[] ++ a.cps⟩ : Str) = a
  rw [Array.empty_append]
theorem Sg.len (g : Sg) : g.txt.length ≤ 2 := by cases g <;> decide +kernel
theorem br_len (b : Bool) (t : Str) : (br b t).length ≤ t.length + 2 := by
  unfold br
  split
  · rw [app_len, app_len]
    have h1 : ("(" : Str).length = 1 := by decide +kernel
    have h2 : (")" : Str).length = 1 := by decide +kernel
    omega
  · omega
theorem Ex.len : ∀ (n : Nat) (e : Ex), Ex.ok n e → e.txt.length ≤ lenB n
  | 0, _, h => h.elim
  | n + 1, .num i, h => by
    have q := PyProof.Rows.int_text_len_1921 (i := i) h
    show (PySem.Str.ofString (toString i)).length ≤ 2 * lenB n + 2000
    omega
  | n + 1, .nam s, h => by
    show s.length ≤ 2 * lenB n + 2000
    have : s.length ≤ 2000 := h
    omega
  | n + 1, .op g l r, h => by
    have h1 := Ex.len n l h.1
    have h2 := Ex.len n r h.2
    have q1 := br_len (lB g l) l.txt
    have q2 := br_len (rB g r) r.txt
    have q3 := g.len
    have hb : (" " : Str).length = 1 := by decide +kernel
    show (br (lB g l) l.txt ++ (" " : Str) ++ g.txt ++ (" " : Str) ++ br (rB g r) r.txt).length ≤ 2 * lenB n + 2000
    rw [app_len, app_len, app_len, app_len]
    omega
theorem Ex.ok_up : ∀ {n m : Nat} {e : Ex}, n ≤ m → Ex.ok n e → Ex.ok m e
  | 0, _, _, _, h => h.elim
  | n + 1, m + 1, .num _, _, h => h
  | n + 1, m + 1, .nam _, _, h => h
  | n + 1, m + 1, .op _ _ _, hm, h => ⟨Ex.ok_up (by omega) h.1, Ex.ok_up (by omega) h.2⟩
/-- what lies at v is the expression -/
def TrIn (H : Hp) : Ex → V → Prop
  | .num n, v => ∃ a, v = .ref a ∧ H a = some (.tup [.str "number", .int n])
  | .nam s, v => ∃ a, v = .ref a ∧ H a = some (.tup [.str "name", .str s])
  | .op g l r, v => ∃ a x y, v = .ref a ∧ H a = some (.tup [.str g.txt, x, y]) ∧ TrIn H l x ∧ TrIn H r y
/-- all but what stands at b stays -/
def But (b : Addr) (H H' : Hp) : Prop := ∀ a o, a ≠ b → H a = some o → H' a = some o
theorem But.of {b : Addr} {H H' : Hp} (h : Same H H') : But b H H' := fun a o _ e => h a o e
theorem But.trans {b : Addr} {H H1 H2 : Hp} (h : But b H H1) (k : But b H1 H2) : But b H H2 := fun a o n e => k a o n (h a o n e)
theorem TrIn.same {H H' : Hp} (h : Same H H') : ∀ {e : Ex} {v : V}, TrIn H e v → TrIn H' e v
  | .num n, v, ⟨a, e, k⟩ => ⟨a, e, h _ _ k⟩
  | .nam n, v, ⟨a, e, k⟩ => ⟨a, e, h _ _ k⟩
  | .op g l r, v, ⟨a, x, y, e, k, p, q⟩ => ⟨a, x, y, e, h _ _ k, TrIn.same h p, TrIn.same h q⟩
theorem lst_ne {H : Hp} {a b : Addr} {xs ys : List V} (h : H a = some (.tup xs)) (k : H b = some (.lst ys)) : a ≠ b := fun e => by
  rw [e, k] at h
  cases h
theorem TrIn.but {H H' : Hp} {b : Addr} {ys : List V} (hb : H b = some (.lst ys)) (h : But b H H') : ∀ {e : Ex} {v : V}, TrIn H e v → TrIn H' e v
  | .num n, v, ⟨a, e, k⟩ => ⟨a, e, h _ _ (lst_ne k hb) k⟩
  | .nam n, v, ⟨a, e, k⟩ => ⟨a, e, h _ _ (lst_ne k hb) k⟩
  | .op g l r, v, ⟨a, x, y, e, k, p, q⟩ => ⟨a, x, y, e, h _ _ (lst_ne k hb) k, TrIn.but hb h p, TrIn.but hb h q⟩
theorem same_new {H : Hp} {p : Addr} (h : H p = none) (o : HO) : Same H (upd H p o) := fun b u q => by
  rw [upd_ne (ne_of_none q h)]
  exact q
def Ex.head : Ex → Str
  | .num _ => "number"
  | .nam _ => "name"
  | .op g _ _ => g.txt
theorem TrIn.tup {H : Hp} : ∀ {e : Ex} {v : V}, TrIn H e v → ∃ a xs, v = .ref a ∧ H a = some (.tup xs) ∧ xs[0]? = some (.str e.head)
  | .num n, v, ⟨a, e, k⟩ => ⟨a, _, e, k, rfl⟩
  | .nam n, v, ⟨a, e, k⟩ => ⟨a, _, e, k, rfl⟩
  | .op g l r, v, ⟨a, x, y, e, k, p, q⟩ => ⟨a, _, e, k, rfl⟩
theorem Sg.ne_number (g : Sg) : g.txt ≠ ("number" : Str) := by cases g <;> decide +kernel
theorem Sg.ne_name (g : Sg) : g.txt ≠ ("name" : Str) := by cases g <;> decide +kernel
/-! ### d.get(k, x) of a dict of the module, keys texts -/
section
variable {X : Cx} {o e f : Expr} {apos cpos : Pos} {td ty tx : TE}
def KGet (K : PySem.W.Frag) (w : World) (a : Addr) (x : Str) (r : Option V) : Prop :=
  ∃ es n ou, K.lookup a = some ⟨.type "dict", none, .dict es n, #[]⟩ ∧ PySem.W.KeysLit w.params es.toList ∧ (a == sysModules) = false ∧ PySem.W.nsIn K a x = some ou ∧
    ((∃ v u, r = some v ∧ ou = some u ∧ RelV v u) ∨ (r = none ∧ ou = none))
def tKGet2 (K : PySem.W.Frag) (w : World) (td ty tx : TE) : TE := fun σ H Q => td σ H fun x H1 => ∃ a es n, x = .ref a ∧ K.lookup a = some ⟨.type "dict", none, .dict es n, #[]⟩ ∧ PySem.W.KeysLit w.params es.toList ∧
  ty σ H1 fun y H2 => tx σ H2 fun z H3 => ∃ k r, y = .str k ∧ KGet K w a k r ∧ Q (r.getD z) H3
theorem pe_kget2 (ho : PE X o td) (he : PE X e ty) (hf : PE X f tx) (m : M2 X o "get" apos e f cpos) : PE X (.Call (.Attribute o "get" apos) [e, f] [] cpos) (tKGet2 X.K X.w td ty tx) := by
  refine ⟨fun pins s σ H Q I h => ?_⟩
  refine wpAny_Call_method m.base m.few m.line PySem.F.plainAttrs_dict PySem.F.slot_dict_get PySem.F.type_dict_get (thn (ho.run pins s σ H _ I h) fun u s1 ⟨x, H1, I1, rx, a, es, n, ex, hl, hk, q1⟩ => ?_)
  subst ex
  obtain rfl : u = Value.ref a := rx
  have hm := PySem.W.mapOf_K (prog := X.prog) (w := X.w) I1.kIn hl hk
  refine ⟨hm.typeIs, fun b q => ?_, ?_⟩
  · cases q
    exact ⟨_, I1.kIn _ _ hl, rfl⟩
  rw [m.trees]
  refine Calls.callWith_builtin rfl (Calls.evalArgs_plain (Calls.spliced_cons (thn (he.run pins s1 σ H1 _ I1 q1) fun iv s2 ⟨y, H2, I2, ry, q2⟩ =>
    Calls.spliced_cons (thn (hf.run pins s2 σ H2 _ I2 q2) fun fv s3 ⟨z, H3, I3, rz, k, r, ey, g, q3⟩ => Calls.spliced_nil ?_))))
  subst ey
  obtain ⟨t, rfl⟩ := (show ∃ t, iv = Value.str k t from ry)
  obtain ⟨es', n', ou, hl', hk', low, hn, hr⟩ := g
  have hm3 := PySem.W.mapOf_K (prog := X.prog) (w := X.w) I3.kIn hl' hk'
  refine call_meetsIn PySem.F.slot_dict_get hm3.typeIs PySem.F.entry_dict_get (PySem.F.args_dict_get_3 _ _ _) (meets_dict_get_default (strKind X.prog X.w) a (strKind_is X.prog X.w k t) low fv) ⟨_, hm3, ?_⟩
  rw [PySem.W.find_K hl' hn]
  rcases hr with ⟨v, u, rfl, rfl, rv⟩ | ⟨rfl, rfl⟩
  · exact ⟨v, H3, I3.tok _, rv, q3⟩
  · exact ⟨z, H3, I3.tok _, rz, q3⟩
end
/-! ### rules within a comprehension: the written part by its name -/
section
variable {X : Cx}
theorem ix_tupK (K : PySem.W.Frag) (h : X.K = K := by rfl) : IxR X (rIxT K) := h ▸ ix_tup
theorem ix_listK (K : PySem.W.Frag) (h : X.K = K := by rfl) : IxR X (rIxL K) := h ▸ ix_list
theorem call_len_seqK (K : PySem.W.Frag) (h : X.K = K := by rfl) : CallR X (.builtin "len") (fun xs H Q => ∃ p ys, xs = [V.ref p] ∧ (SqL K H p ys ∨ SqT K H p ys) ∧ Q (.int (ys.length : Nat)) H) := h ▸ call_len_seq
theorem op_in_seqK (K : PySem.W.Frag) (h : X.K = K := by rfl) : OpR X (compareOp .In) (rIn K false) := h ▸ op_in_seq
theorem op_notIn_seqK (K : PySem.W.Frag) (h : X.K = K := by rfl) : OpR X (compareOp .NotIn) (rIn K true) := h ▸ op_notIn_seq
end
end SH

set_option Elab.async false
set_option linter.all false
set_option maxRecDepth 100000
namespace SH
open PySem L2
def topS (i : Nat) : Stmt := PySem.Challenge.pw_stealhall_k06_whole_brackets_wanted.main.body.getD i (.Pass ⟨0, 0, 0, 0⟩)
abbrev sShow : Stmt := topS 4
abbrev sBind : Stmt := topS 5
abbrev sLeft : Stmt := topS 6
abbrev sRight : Stmt := topS 7
abbrev sPart : Stmt := topS 8
theorem scShow : FnScope ["tree", "sign", "left", "right"] ["tree"] (defScope sShow) := ⟨rfl, rfl, rfl, by decide +kernel, rfl, by decide +kernel, by decide +kernel⟩
theorem scBind : FnScope ["tree"] ["tree"] (defScope sBind) := ⟨rfl, rfl, rfl, by decide +kernel, rfl, by decide +kernel, by decide +kernel⟩
theorem scLeft : FnScope ["part", "sign", "binding"] ["part", "sign"] (defScope sLeft) := ⟨rfl, rfl, rfl, by decide +kernel, rfl, by decide +kernel, by decide +kernel⟩
theorem scRight : FnScope ["part", "sign"] ["part", "sign"] (defScope sRight) := ⟨rfl, rfl, rfl, by decide +kernel, rfl, by decide +kernel, by decide +kernel⟩
theorem scPart : FnScope ["part", "in_brackets", "text"] ["part", "in_brackets"] (defScope sPart) := ⟨rfl, rfl, rfl, by decide +kernel, rfl, by decide +kernel, by decide +kernel⟩
/-- what the module's dict BINDING tells -/
structure BindD (K : PySem.W.Frag) (w : World) (a : Addr) : Prop where
  lk : ∃ es n, K.lookup a = some ⟨.type "dict", none, .dict es n, #[]⟩ ∧ PySem.W.KeysLit w.params es.toList
  low : (a == sysModules) = false
  sg : ∀ g : Sg, ∃ u, PySem.W.nsIn K a g.txt = some (some u) ∧ RelV (.int g.lv) u
  num : PySem.W.nsIn K a "number" = some none
  nam : PySem.W.nsIn K a "name" = some none
theorem BindD.get {K : PySem.W.Frag} {w : World} {a : Addr} (B : BindD K w a) (e : Ex) : ∃ r, KGet K w a e.head r ∧ r.getD (.int 4) = .int e.lv := by
  obtain ⟨es, n, hl, hk⟩ := B.lk
  cases e with
  | num i => exact ⟨none, ⟨es, n, _, hl, hk, B.low, B.num, .inr ⟨rfl, rfl⟩⟩, rfl⟩
  | nam i => exact ⟨none, ⟨es, n, _, hl, hk, B.low, B.nam, .inr ⟨rfl, rfl⟩⟩, rfl⟩
  | op g l r =>
    obtain ⟨u, hu, ru⟩ := B.sg g
    exact ⟨some (.int g.lv), ⟨es, n, _, hl, hk, B.low, hu, .inl ⟨_, u, rfl, rfl, ru⟩⟩, rfl⟩
theorem BindD.ix {K : PySem.W.Frag} {w : World} {a : Addr} (B : BindD K w a) (g : Sg) : KDct K w a g.txt (.int g.lv) := by
  obtain ⟨es, n, hl, hk⟩ := B.lk
  obtain ⟨u, hu, ru⟩ := B.sg g
  exact ⟨es, n, u, hl, hk, hu, ru⟩
def spBind : Sp := fun vs H Q _ => ∃ (v : V) (e : Ex), vs = [v] ∧ TrIn H e v ∧ Q (.int e.lv) H
def spPart (n : Nat) : Sp := fun vs H Q _ => ∃ (v : V) (b : Bool) (e : Ex), vs = [v, .bl b] ∧ TrIn H e v ∧ Ex.ok n e ∧ Q (.str (br b e.txt)) H
def spLeft (n : Nat) : Sp := fun vs H Q _ => ∃ (v : V) (g : Sg) (e : Ex), vs = [v, .str g.txt] ∧ TrIn H e v ∧ Ex.ok n e ∧ Q (.str (br (lB g e) e.txt)) H
def spRight (n : Nat) : Sp := fun vs H Q _ => ∃ (v : V) (g : Sg) (e : Ex), vs = [v, .str g.txt] ∧ TrIn H e v ∧ Ex.ok n e ∧ Q (.str (br (rB g e) e.txt)) H
def spShow (n : Nat) : Sp := fun vs H Q _ => ∃ (v : V) (e : Ex), vs = [v] ∧ TrIn H e v ∧ Ex.ok n e ∧ Q (.str e.txt) H
section
variable {P : Program} {w : World} {K : PySem.W.Frag} {mg : Str → Option Value} {base : Heap}
theorem ok_bind {f aB : Addr} {fd : FuncData} {tL : Tok} (F : Fun K "binding_of" "binding_of" sBind f fd) (gB : mg "BINDING" = some (.ref aB)) (B : BindD K w aB) (gL : mg "LEAF_BINDING" = some (.int 4 tL)) :
    FnOk P w K mg base CX0 1 f fd ["tree"] spBind := by
  refine F.ok scBind (fun vs H Q E h => ?_) (fun cdv A outer s H vs Q E hr h => ?_)
  · obtain ⟨v, e, rfl, _⟩ := h
    rfl
  obtain ⟨v, e, rfl, hT, q⟩ := h
  refine ⟨_, pss_one (ps_ret (pe_kget2 (pe_glob (v := .ref aB) rfl gB rfl) (pe_ix ix_tup (pv 0) pe_int (fun _ _ => rfl)) (pe_glob (v := .int 4) rfl gL ⟨_, rfl⟩) ⟨rfl, rfl, rfl, rfl⟩)), ?_⟩
  obtain ⟨es, n, hl, hk⟩ := B.lk
  obtain ⟨a, xs, rfl, hx, h0⟩ := hT.tup
  obtain ⟨r, hr', er⟩ := B.get e
  refine ⟨aB, es, n, rfl, hl, hk, _, rfl, a, xs, 0, _, rfl, rfl, SqT.of hx, atI_nat h0, e.head, r, rfl, hr', ?_⟩
  rw [er]
  exact q
theorem ok_part {n k : Nat} {f g : Addr} {fd gd : FuncData} (F : Fun K "show_part" "show_part" sPart f fd) (G : FnOk P w K mg base CX0 k g gd ["tree"] (spShow n)) (bG : Binds K gd ["tree"] []) (kG : PySem.W.keepIn K (.ref g) = true) (mG : mg "show_expression" = some (.ref g)) (hn : lenB n ≤ 1000000) :
    FnOk P w K mg base CX0 (k + 1) f fd ["part", "in_brackets"] (spPart n) := by
  refine F.ok scPart (fun vs H Q E h => ?_) (fun cdv A outer s H vs Q E hr h => ?_)
  · obtain ⟨v, b, e, rfl, _⟩ := h
    rfl
  obtain ⟨v, b, e, rfl, hT, ho, q⟩ := h
  refine ⟨_, pss_cons (ps_set (i := 2) scPart.nd rfl (Or.inl rfl) (pe_call G hr rfl mG kG bG .nil pass0 (pa_cons (pv 0) pa_nil)))
    (pss_one (ps_ret (pe_ifExp (pt_val (pv 1)) (pe_joined (.cons pe_str (.cons (pe_fmt (pv 2)) (.cons pe_str .nil)))) (pv 2)))), ?_⟩
  have hl := Ex.len n e ho
  have hs : sizeLine = 16777216 := by decide
  refine ⟨_, rfl, v, e, rfl, hT, ho, ?_⟩
  refine ⟨_, rfl, _, rfl, ?_⟩
  cases b with
  | false =>
    refine iteF ⟨_, rfl, ?_⟩
    exact q
  | true =>
    refine iteT ⟨_, rfl, ?_⟩
    have h1 : ("(" : Str).length = 1 := by decide +kernel
    have h2 : (")" : Str).length = 1 := by decide +kernel
    rw [emp_app]
    refine ⟨by omega, _, rfl, .inl ⟨_, rfl, by omega, _, rfl, ?_, _, rfl, ?_, ?_⟩⟩
    · rw [app_len]; omega
    · rw [app_len, app_len]; omega
    · exact q
theorem ok_left {n k : Nat} {f g b aB : Addr} {fd gd bd : FuncData} {tC : Tok} (F : Fun K "show_left" "show_left" sLeft f fd) (G : FnOk P w K mg base CX0 (k + 1) g gd ["part", "in_brackets"] (spPart n)) (bG : Binds K gd ["part", "in_brackets"] []) (kG : PySem.W.keepIn K (.ref g) = true) (mG : mg "show_part" = some (.ref g))
    (N : FnOk P w K mg base CX0 1 b bd ["tree"] spBind) (bN : Binds K bd ["tree"] []) (kN : PySem.W.keepIn K (.ref b) = true) (mN : mg "binding_of" = some (.ref b))
    (gB : mg "BINDING" = some (.ref aB)) (B : BindD K w aB) (gC : mg "COMPARISON_BINDING" = some (.int 1 tC)) :
    FnOk P w K mg base CX0 (k + 2) f fd ["part", "sign"] (spLeft n) := by
  refine F.ok scLeft (fun vs H Q E h => ?_) (fun cdv A outer s H vs Q E hr h => ?_)
  · obtain ⟨v, g, e, rfl, _⟩ := h
    rfl
  obtain ⟨v, sg, e, rfl, hT, ho, q⟩ := h
  refine ⟨_, pss_cons (ps_set (i := 2) scLeft.nd rfl (Or.inl rfl) (pe_call N (hr.mono (by omega)) rfl mN kN bN .nil pass0 (pa_cons (pv 0) pa_nil)))
    (pss_one (ps_ret (pe_call G hr rfl mG kG bG .nil pass0 (pa_cons (pv 0) (pa_cons (pe_or (pe_cmpR op_lt (pv 2) (pe_ix ix_kdict (pe_glob (v := .ref aB) rfl gB rfl) (pv 1) (fun _ _ => rfl)) (nomark _))
      (pe_one (pe_cmpR op_eq (pv 2) (pe_glob (v := .int 1) rfl gC ⟨_, rfl⟩) (nomark _)))) pa_nil))))), ?_⟩
  refine ⟨_, rfl, v, e, rfl, hT, ?_⟩
  refine ⟨_, rfl, _, rfl, _, rfl, aB, sg.txt, _, rfl, rfl, B.ix sg, _, _, rfl, rfl, _, rfl, ?_⟩
  have fin : ∀ b, b = lB sg e → spPart n [v, .bl b] H Q E := fun b hb => ⟨v, b, e, rfl, hT, ho, by rw [hb]; exact q⟩
  refine ite2 (fun c => ?_) (fun c => ?_)
  · exact fin true (by unfold lB; rw [c]; rfl)
  · refine ⟨_, rfl, rfl, ?_⟩
    refine fin _ ?_
    unfold lB
    rw [Bool.eq_false_iff.mpr c, Bool.false_or]
    by_cases h1 : e.lv = 1
    · rw [h1]; rfl
    · rw [decide_eq_false h1]
      exact decide_eq_false fun z => h1 (V.int.inj z)
theorem ok_right {n k : Nat} {f g b aB : Addr} {fd gd bd : FuncData} (F : Fun K "show_right" "show_right" sRight f fd) (G : FnOk P w K mg base CX0 (k + 1) g gd ["part", "in_brackets"] (spPart n)) (bG : Binds K gd ["part", "in_brackets"] []) (kG : PySem.W.keepIn K (.ref g) = true) (mG : mg "show_part" = some (.ref g))
    (N : FnOk P w K mg base CX0 1 b bd ["tree"] spBind) (bN : Binds K bd ["tree"] []) (kN : PySem.W.keepIn K (.ref b) = true) (mN : mg "binding_of" = some (.ref b))
    (gB : mg "BINDING" = some (.ref aB)) (B : BindD K w aB) :
    FnOk P w K mg base CX0 (k + 2) f fd ["part", "sign"] (spRight n) := by
  refine F.ok scRight (fun vs H Q E h => ?_) (fun cdv A outer s H vs Q E hr h => ?_)
  · obtain ⟨v, g, e, rfl, _⟩ := h
    rfl
  obtain ⟨v, sg, e, rfl, hT, ho, q⟩ := h
  refine ⟨_, pss_one (ps_ret (pe_call G hr rfl mG kG bG .nil pass0 (pa_cons (pv 0) (pa_cons (pe_cmpR op_le (pe_call N (hr.mono (by omega)) rfl mN kN bN .nil pass0 (pa_cons (pv 0) pa_nil)) (pe_ix ix_kdict (pe_glob (v := .ref aB) rfl gB rfl) (pv 1) (fun _ _ => rfl)) (nomark _)) pa_nil)))), ?_⟩
  refine ⟨_, rfl, _, rfl, v, e, rfl, hT, _, rfl, aB, sg.txt, _, rfl, rfl, B.ix sg, _, _, rfl, rfl, ?_⟩
  exact ⟨v, _, e, rfl, hT, ho, q⟩
theorem ok_show {n k : Nat} {f l r : Addr} {fd ld rd : FuncData} (F : Fun K "show_expression" "show_expression" sShow f fd) (GL : FnOk P w K mg base CX0 (k + 2) l ld ["part", "sign"] (spLeft n)) (bL : Binds K ld ["part", "sign"] []) (kL : PySem.W.keepIn K (.ref l) = true) (mL : mg "show_left" = some (.ref l))
    (GR : FnOk P w K mg base CX0 (k + 2) r rd ["part", "sign"] (spRight n)) (bR : Binds K rd ["part", "sign"] []) (kR : PySem.W.keepIn K (.ref r) = true) (mR : mg "show_right" = some (.ref r)) (ms : mg "str" = none) (hn : lenB n ≤ 1000000) :
    FnOk P w K mg base CX0 (k + 3) f fd ["tree"] (spShow (n + 1)) := by
  refine F.ok scShow (fun vs H Q E h => ?_) (fun cdv A outer s H vs Q E hr h => ?_)
  · obtain ⟨v, e, rfl, _⟩ := h
    rfl
  obtain ⟨v, e, rfl, hT, ho, q⟩ := h
  refine ⟨_, pss_cons (ps_if (pt_cmpR op_eq (pe_ix ix_tup (pv 0) pe_int (fun _ _ => rfl)) pe_str (nomark _)) (pss_one (ps_ret (pe_callTy call_str_int (by rfl) ms (by decide +kernel) (pa_cons (pe_ix ix_tup (pv 0) pe_int (fun _ _ => rfl)) pa_nil)))) pss_nil)
    (pss_cons (ps_if (pt_cmpR op_eq (pe_ix ix_tup (pv 0) pe_int (fun _ _ => rfl)) pe_str (nomark _)) (pss_one (ps_ret (pe_ix ix_tup (pv 0) pe_int (fun _ _ => rfl)))) pss_nil)
    (pss_cons (ps_asg (pv 0) (pg_tup rfl (pgs_cons (pg_name (i := 1) scShow.nd rfl (.inl rfl)) (pgs_cons (pg_name (i := 2) scShow.nd rfl (.inl rfl)) (pgs_cons (pg_name (i := 3) scShow.nd rfl (.inl rfl)) pgs_nil)))))
    (pss_one (ps_ret (pe_joined (.cons (pe_fmt (pe_call GL hr rfl mL kL bL .nil pass0 (pa_cons (pv 2) (pa_cons (pv 1) pa_nil)))) (.cons pe_str (.cons (pe_fmt (pv 1)) (.cons pe_str (.cons (pe_fmt (pe_call GR hr rfl mR kR bR .nil pass0 (pa_cons (pv 3) (pa_cons (pv 1) pa_nil)))) .nil)))))))))), ?_⟩
  have hs : sizeLine = 16777216 := by decide
  cases e with
  | num i =>
    obtain ⟨a, rfl, ha⟩ := hT
    refine ⟨_, rfl, a, _, 0, _, rfl, rfl, SqT.of ha, atI_nat rfl, rfl, _, rfl, ?_⟩
    rw [decide_eq_true rfl]
    refine iteT ⟨_, rfl, a, _, 1, _, rfl, rfl, SqT.of ha, atI_nat (j := 1) rfl, _, rfl, ho, ?_⟩
    exact q
  | nam z =>
    obtain ⟨a, rfl, ha⟩ := hT
    refine ⟨_, rfl, a, _, 0, _, rfl, rfl, SqT.of ha, atI_nat rfl, rfl, _, rfl, ?_⟩
    rw [decide_eq_false (by intro z; have := V.str.inj z; revert this; decide +kernel)]
    refine iteF ?_
    refine ⟨_, rfl, a, _, 0, _, rfl, rfl, SqT.of ha, atI_nat rfl, rfl, _, rfl, ?_⟩
    rw [decide_eq_true rfl]
    refine iteT ⟨_, rfl, a, _, 1, _, rfl, rfl, SqT.of ha, atI_nat (j := 1) rfl, ?_⟩
    exact q
  | op g l r =>
    obtain ⟨a, x, y, rfl, ha, hl, hr'⟩ := hT
    obtain ⟨o1, o2⟩ := ho
    have l1 := Ex.len n l o1
    have l2 := Ex.len n r o2
    have q1 := br_len (lB g l) l.txt
    have q2 := br_len (rB g r) r.txt
    have q3 := g.len
    have hb : (" " : Str).length = 1 := by decide +kernel
    refine ⟨_, rfl, a, _, 0, _, rfl, rfl, SqT.of ha, atI_nat rfl, rfl, _, rfl, ?_⟩
    rw [decide_eq_false (by intro z; exact g.ne_number (V.str.inj z))]
    refine iteF ?_
    refine ⟨_, rfl, a, _, 0, _, rfl, rfl, SqT.of ha, atI_nat rfl, rfl, _, rfl, ?_⟩
    rw [decide_eq_false (by intro z; exact g.ne_name (V.str.inj z))]
    refine iteF ?_
    refine ⟨_, rfl, a, _, rfl, SqT.of ha, rfl, _, _, rfl, _, _, rfl, _, _, rfl, rfl, ?_⟩
    refine ⟨_, rfl, _, rfl, x, g, l, rfl, hl, o1, .inl ⟨_, rfl, by omega, _, rfl, ?_, ?_⟩⟩
    · rw [emp_app]; omega
    rw [emp_app]
    refine ⟨_, rfl, by rw [app_len]; omega, _, rfl, .inl ⟨_, rfl, by omega, _, rfl, by rw [app_len, app_len]; omega, _, rfl, by rw [app_len, app_len, app_len]; omega, ?_⟩⟩
    refine ⟨_, rfl, _, rfl, y, g, r, rfl, hr', o2, .inl ⟨_, rfl, by omega, _, rfl, by rw [app_len, app_len, app_len, app_len]; omega, ?_⟩⟩
    exact q
theorem show_none {f : Addr} {fd : FuncData} : FnOk P w K mg base CX0 0 f fd ["tree"] (spShow 0) := by
  have no : ∀ vs H Q E, ¬ spShow 0 vs H Q E := fun vs H Q E h => by
    obtain ⟨v, e, _, _, h1, _⟩ := h
    exact h1
  exact ⟨fun vs H Q E h => absurd h (no vs H Q E), fun A outer s H args us vs Q E _ _ _ _ h => absurd h (no vs H Q E)⟩
theorem lenB_le : ∀ {n m : Nat}, n ≤ m → lenB n ≤ lenB m
  | 0, 0, _ => Nat.le_refl _
  | 0, m + 1, _ => by
    have := lenB_le (n := 0) (m := m) (Nat.zero_le _)
    show lenB 0 ≤ 2 * lenB m + 2000
    omega
  | n + 1, m + 1, h => by
    have := lenB_le (n := n) (m := m) (by omega)
    show 2 * lenB n + 2000 ≤ 2 * lenB m + 2000
    omega
theorem shows {fS fB fL fR fP aB : Addr} {dS dB dL dR dP : FuncData} {tC tL : Tok} (FS : Fun K "show_expression" "show_expression" sShow fS dS) (FB : Fun K "binding_of" "binding_of" sBind fB dB) (FL : Fun K "show_left" "show_left" sLeft fL dL)
    (FR : Fun K "show_right" "show_right" sRight fR dR) (FP : Fun K "show_part" "show_part" sPart fP dP) (mS : mg "show_expression" = some (.ref fS)) (mB : mg "binding_of" = some (.ref fB)) (mL : mg "show_left" = some (.ref fL)) (mR : mg "show_right" = some (.ref fR)) (mP : mg "show_part" = some (.ref fP))
    (bS : Binds K dS ["tree"] []) (bB : Binds K dB ["tree"] []) (bL : Binds K dL ["part", "sign"] []) (bR : Binds K dR ["part", "sign"] []) (bP : Binds K dP ["part", "in_brackets"] [])
    (gB : mg "BINDING" = some (.ref aB)) (B : BindD K w aB) (gC : mg "COMPARISON_BINDING" = some (.int 1 tC)) (gL : mg "LEAF_BINDING" = some (.int 4 tL)) (ms : mg "str" = none) :
    ∀ n : Nat, n ≤ 7 → FnOk P w K mg base CX0 (3 * n) fS dS ["tree"] (spShow n)
  | 0, _ => show_none
  | n + 1, hn => by
    have ih := shows FS FB FL FR FP mS mB mL mR mP bS bB bL bR bP gB B gC gL ms n (by omega)
    have hl : lenB n ≤ 1000000 := Nat.le_trans (lenB_le (m := 7) (by omega)) (by decide)
    have GP := ok_part FP ih bS FS.kp mS hl
    have GB := ok_bind (P := P) (base := base) FB gB B gL
    have GL := ok_left FL GP bP FP.kp mP GB bB FB.kp mB gB B gC
    have GR := ok_right FR GP bP FP.kp mP GB bB FB.kp mB gB B
    exact ok_show FS GL bL FL.kp mL GR bR FR.kp mR ms hl
end
end SH

set_option Elab.async false
set_option linter.all false
set_option maxRecDepth 100000
namespace SH
open PySem L2
abbrev sBag : Stmt := topS 10
abbrev sTake : Stmt := topS 11
theorem scBag : FnScope ["_law_script", "_law_k", "_law_cell"] ["_law_script", "_law_k"] (defScope sBag) := ⟨rfl, rfl, rfl, by decide +kernel, rfl, by decide +kernel, by decide +kernel⟩
theorem scTake : FnScope ["_law_bag_here", "_law_many", "_law_digit", "_law_primes", "_law_step", "_law_base", "_law_found", "_law_prime"] ["_law_bag_here", "_law_many"] (defScope sTake) := ⟨rfl, rfl, rfl, by decide +kernel, rfl, by decide +kernel, by decide +kernel⟩
/-- the names of the built-ins are free -/
structure Bi (mg : Str → Option Value) : Prop where
  len : mg "len" = none
  abs : mg "abs" = none
  int : mg "int" = none
  str : mg "str" = none
  range : mg "range" = none
  max : mg "max" = none
  min : mg "min" = none
  isinstance : mg "isinstance" = none
  all : mg "all" = none
/-- a def that can be called -/
structure Fk (P : Program) (w : World) (K : PySem.W.Frag) (mg : Str → Option Value) (base : Heap) (lv : Nat) (x : Str) (f : Addr) (fd : FuncData) (ps : List Str) (sp : Sp) : Prop where
  G : FnOk P w K mg base CX0 lv f fd ps sp
  m : mg x = some (.ref f)
  k : PySem.W.keepIn K (.ref f) = true
  b : Binds K fd ps []
/-- a bag from which n can be taken -/
def Bag (H : Hp) (b : Addr) (n : Nat) : Prop := ∃ x y z : Int, H b = some (.lst [.int x, .int y, .int z]) ∧ 0 ≤ x ∧ 0 ≤ y ∧ y ≤ 4294967296 ∧ 0 ≤ z ∧ z + n ≤ 16777216
theorem Bag.less {H : Hp} {b : Addr} {n m : Nat} (h : Bag H b n) (hm : m ≤ n) : Bag H b m := by
  obtain ⟨x, y, z, e, h1, h2, h3, h4, h5⟩ := h
  exact ⟨x, y, z, e, h1, h2, h3, h4, by omega⟩
theorem Bag.same {H H' : Hp} {b : Addr} {n : Nat} (h : Bag H b n) (s : Same H H') : Bag H' b n := by
  obtain ⟨x, y, z, e, r⟩ := h
  exact ⟨x, y, z, s _ _ e, r⟩
theorem Bag.lst {H : Hp} {b : Addr} {n : Nat} (h : Bag H b n) : ∃ ys, H b = some (.lst ys) := by
  obtain ⟨x, y, z, e, _⟩ := h
  exact ⟨_, e⟩
def spBag (K : PySem.W.Frag) : Sp := fun vs H Q _ => ∃ (a : Addr) (ns : List Int) (k : Int), vs = [.ref a, .int k] ∧ SqL K H a (ns.map V.int) ∧ 0 ≤ k ∧ k ≤ 63 ∧
  ∀ b H', Same H H' → H b = none → Bag H' b 16000000 → Q (.ref b) H'
def spTake : Sp := fun vs H Q _ => ∃ (b : Addr) (m : Int) (n : Nat), vs = [.ref b, .int m] ∧ 0 < m ∧ m < 1073741824 ∧ Bag H b (n + 1) ∧
  ∀ (d : Int) (H' : Hp), 0 ≤ d → d < m → Bag H' b n → But b H H' → Q (.int d) H'
theorem bit01 (b : Bool) : -(2 ^ 64) < (if b = true then (1 : Int) else 0) ∧ (if b = true then (1 : Int) else 0) < 2 ^ 64 := by cases b <;> decide
theorem bit0 (b : Bool) : 0 ≤ (if b = true then (1 : Int) else 0) := by cases b <;> decide
section
variable {P : Program} {w : World} {K : PySem.W.Frag} {mg : Str → Option Value} {base : Heap}
theorem ok_bag {f : Addr} {fd : FuncData} (F : Fun K "_law_bag" "_law_bag" sBag f fd) (T : Bi mg) : FnOk P w K mg base CX0 1 f fd ["_law_script", "_law_k"] (spBag K) := by
  refine F.ok scBag (fun vs H Q E h => ?_) (fun cdv A outer s H vs Q E hr h => ?_)
  · obtain ⟨a, ns, k, rfl, _⟩ := h
    rfl
  obtain ⟨a, ns, k, rfl, hS, h0, h1, q⟩ := h
  refine ⟨_, (pss_cons (ps_set (i := 2) scBag.nd rfl (Or.inl rfl) (pe_op op_add (pe_op op_mul pe_int (pv 1)) pe_int))
    (C8.pss_cut (ps_if (pt_cmpR op_lt (pv 1) (pe_callB call_len_seq (by rfl) T.len (by decide +kernel) (pa_cons (pv 0) pa_nil)) (nomark _))
      (pss_one (ps_set (i := 2) scBag.nd rfl (Or.inl rfl) (pe_ix ix_list (pv 0) (pv 1) (fun _ _ => rfl))))
      pss_nil)
    (pss_one (ps_ret (pe_lst (pa_cons (pe_op op_mul (pe_callB call_abs (by rfl) T.abs (by decide +kernel) (pa_cons (pv 2) pa_nil)) (pe_callTy call_int1 (by rfl) T.int (by decide +kernel) (pa_cons (pe_cmpR op_ge (pe_callB call_abs (by rfl) T.abs (by decide +kernel) (pa_cons (pv 2) pa_nil)) (pe_op op_pow pe_int pe_int) (nomark _)) pa_nil))) (pa_cons (pe_op op_add (pe_op op_mod (pv 2) pe_int) (pe_op op_mul pe_int (pv 1))) (pa_cons pe_int pa_nil)))))))), ?_⟩
  have hl : (ns.map V.int).length = ns.length := List.length_map _
  refine ⟨_, rfl, _, _, rfl, rfl, .inl ⟨by decide, by decide⟩, _, _, rfl, rfl, ?_⟩
  refine ⟨fun σ' H' => ∃ c : Int, σ' = [some (.ref a), some (.int k), some (.int c)] ∧ H' = H, ?_, ?_⟩
  · refine ⟨_, rfl, _, rfl, a, _, rfl, .inl hS, _, _, rfl, rfl, _, rfl, ?_⟩
    refine ite2 (fun c => ?_) (fun c => ?_)
    · have c' := of_decide_eq_true c
      rw [hl] at c'
      have hk : k.toNat < ns.length := by omega
      refine ⟨_, rfl, _, rfl, a, _, k, .int ns[k.toNat], rfl, rfl, hS, ?_, ?_⟩
      · have q : atI (ns.map V.int) ((k.toNat : Nat) : Int) = some (.int ns[k.toNat]) := atI_nat (by rw [List.getElem?_map, List.getElem?_eq_getElem hk] <;> rfl)
        rwa [show ((k.toNat : Nat) : Int) = k by omega] at q
      · exact ⟨_, rfl, rfl⟩
    · exact ⟨_, rfl, rfl⟩
  · rintro σ' H' ⟨c, rfl, rfl⟩
    refine ⟨_, rfl, _, rfl, _, rfl, _, rfl, _, _, rfl, rfl, ⟨by decide, by decide, by decide⟩, _, _, rfl, rfl, .inr ⟨_, rfl, ?_⟩⟩
    refine ⟨_, _, rfl, rfl, .inr ?_, ?_⟩
    · exact bit01 _
    refine ⟨_, rfl, _, _, rfl, rfl, (by show (0 : Int) < 2147483647; decide), _, rfl, _, _, rfl, rfl, .inl ⟨by decide, by decide⟩, _, _, rfl, rfl, ?_⟩
    refine ⟨by show 3 ≤ sizeLine; decide, fun b hb => ?_⟩
    refine q b _ (same_new hb _) hb ⟨_, _, _, upd_same, ?_, ?_, ?_, Int.le_refl 0, by decide⟩
    · show 0 ≤ (if c < 0 then -c else c) * (if decide ((10 : Int) ^ 18 ≤ (if c < 0 then -c else c)) = true then (1 : Int) else 0)
      refine Int.mul_nonneg ?_ ?_
      · split <;> omega
      · exact bit0 _
    · have := Int.emod_nonneg c (show (2147483647 : Int) ≠ 0 by decide)
      show 0 ≤ c % 2147483647 + 37 * k
      omega
    · have := Int.emod_lt_of_pos c (show (0 : Int) < 2147483647 by decide)
      show c % 2147483647 + 37 * k ≤ 4294967296
      omega
theorem pow3 {a : Int} (h0 : 0 ≤ a) (h : a < 4611686018427387904) : CPow a 3 := ⟨by decide, by decide, by omega⟩
def primes : List Int := [2147483647, 2147483629, 2147483587, 2147483579, 2147483563, 2147483549, 2147483543, 2147483497, 2147483489, 2147483477, 2147483423, 2147483399]
theorem primes_at {z : Int} : ∃ p : Int, atI (primes.map V.int) (z % 12) = some (.int p) ∧ 0 < p ∧ p < 2147483648 := by
  have h0 := Int.emod_nonneg z (show (12 : Int) ≠ 0 by decide)
  have h1 := Int.emod_lt_of_pos z (show (0 : Int) < 12 by decide)
  have hk : (z % 12).toNat < primes.length := by show (z % 12).toNat < 12; omega
  have q : atI (primes.map V.int) (((z % 12).toNat : Nat) : Int) = some (.int primes[(z % 12).toNat]) := atI_nat (by rw [List.getElem?_map, List.getElem?_eq_getElem hk] <;> rfl)
  rw [show (((z % 12).toNat : Nat) : Int) = z % 12 by omega] at q
  have all : ∀ p ∈ primes, 0 < p ∧ p < 2147483648 := by decide
  exact ⟨_, q, all _ (List.getElem_mem hk)⟩
theorem base_le {y z : Int} (h2 : 0 ≤ y) (h3 : y ≤ 4294967296) (h4 : 0 ≤ z) (h5 : z ≤ 16777217) : 0 ≤ y * (2 * z + 1) + 7919 * z * z + 29 ∧ y * (2 * z + 1) + 7919 * z * z + 29 < 4611686018427387904 := by
  have a1 : y * (2 * z + 1) ≤ 4294967296 * 67108864 := Int.mul_le_mul h3 (by omega) (by omega) (by omega)
  have a2 : 0 ≤ y * (2 * z + 1) := Int.mul_nonneg h2 (by omega)
  have b1 : 7919 * z * z ≤ 132858781423 * 16777217 := Int.mul_le_mul (by omega) h5 h4 (by omega)
  have b2 : 0 ≤ 7919 * z * z := Int.mul_nonneg (by omega) h4
  omega
theorem ok_take {f : Addr} {fd : FuncData} (F : Fun K "_law_take" "_law_take" sTake f fd) : FnOk P w K mg base CX0 1 f fd ["_law_bag_here", "_law_many"] spTake := by
  refine F.ok scTake (fun vs H Q E h => ?_) (fun cdv A outer s H vs Q E hr h => ?_)
  · obtain ⟨b, m, n, rfl, _⟩ := h
    rfl
  obtain ⟨b, m, n, rfl, hm0, hm1, ⟨x, y, z, hb, hx, hy, hy1, hz, hz1⟩, q⟩ := h
  refine ⟨_, (pss_cons (ps_if (pt_cmpR op_gt (pe_ix ix_list (pv 0) pe_int (fun _ _ => rfl)) pe_int (nomark _))
      (pss_cons (ps_set (i := 2) scTake.nd rfl (Or.inl rfl) (pe_op op_mod (pe_ix ix_list (pv 0) pe_int (fun _ _ => rfl)) (pv 1)))
    (pss_cons (ps_asg (pe_op op_fdiv (pe_ix ix_list (pv 0) pe_int (fun _ _ => rfl)) (pv 1)) (pg_sub (pv 0) pe_int set_list))
    (pss_one (ps_ret (pv 2)))))
      pss_nil)
    (pss_cons (ps_set (i := 3) scTake.nd rfl (Or.inl rfl) (pe_tup (pa_cons pe_int (pa_cons pe_int (pa_cons pe_int (pa_cons pe_int (pa_cons pe_int (pa_cons pe_int (pa_cons pe_int (pa_cons pe_int (pa_cons pe_int (pa_cons pe_int (pa_cons pe_int (pa_cons pe_int pa_nil))))))))))))))
    (pss_cons (ps_asg (pe_op op_add (pe_ix ix_list (pv 0) pe_int (fun _ _ => rfl)) pe_int) (pg_sub (pv 0) pe_int set_list))
    (pss_cons (ps_set (i := 4) scTake.nd rfl (Or.inl rfl) (pe_ix ix_list (pv 0) pe_int (fun _ _ => rfl)))
    (pss_cons (ps_set (i := 5) scTake.nd rfl (Or.inl rfl) (pe_op op_add (pe_op op_add (pe_op op_mul (pe_ix ix_list (pv 0) pe_int (fun _ _ => rfl)) (pe_op op_add (pe_op op_mul pe_int (pv 4)) pe_int)) (pe_op op_mul (pe_op op_mul pe_int (pv 4)) (pv 4))) pe_int))
    (pss_cons (ps_set (i := 6) scTake.nd rfl (Or.inl rfl) (pe_op op_mod (pe_op op_pow (pv 5) pe_int) (pe_ix ix_tup (pv 3) (pe_op op_mod (pv 4) pe_int) (fun _ _ => rfl))))
    (pss_cons (ps_set (i := 7) scTake.nd rfl (Or.inl rfl) (pe_ix ix_tup (pv 3) (pe_op op_mod (pe_op op_add (pv 4) pe_int) pe_int) (fun _ _ => rfl)))
    (pss_one (ps_ret (pe_op op_mod (pe_op op_fdiv (pe_op op_mod (pe_op op_mul (pv 6) (pe_op op_add (pe_op op_fdiv (pv 6) pe_int) pe_int)) (pv 7)) pe_int) (pv 1))))))))))), ?_⟩
  have i0 : ∀ {u v t : V}, atI [u, v, t] 0 = some u := fun {u v t} => atI_nat (j := 0) rfl
  have i1 : ∀ {u v t : V}, atI [u, v, t] 1 = some v := fun {u v t} => atI_nat (j := 1) rfl
  have i2 : ∀ {u v t : V}, atI [u, v, t] 2 = some t := fun {u v t} => atI_nat (j := 2) rfl
  refine ⟨_, rfl, b, _, 0, _, rfl, rfl, SqL.of hb, i0, _, _, rfl, rfl, _, rfl, ?_⟩
  refine ite2 (fun c => ?_) (fun c => ?_)
  · refine ⟨_, rfl, b, _, 0, _, rfl, rfl, SqL.of hb, i0, _, rfl, _, _, rfl, rfl, hm0, ?_⟩
    refine ⟨_, rfl, b, _, 0, _, rfl, rfl, SqL.of hb, i0, _, rfl, _, _, rfl, rfl, ⟨hm0, hm1⟩, ?_⟩
    refine ⟨_, rfl, b, _, 0, 0, rfl, rfl, hb, rfl, ?_⟩
    refine ⟨_, rfl, ?_⟩
    refine q _ _ (Int.emod_nonneg x (by omega)) (Int.emod_lt_of_pos x hm0) ⟨_, y, z, upd_same, Int.ediv_nonneg hx (by omega), hy, hy1, hz, by omega⟩ fun a o na e => ?_
    rw [upd_ne na]
    exact e
  · refine ⟨by show 12 ≤ sizeLine; decide, fun t ht => ?_⟩
    have nt : b ≠ t := ne_of_none hb ht
    have hb1 : (upd H t (.tup (primes.map V.int))) b = some (.lst [.int x, .int y, .int z]) := by rw [upd_ne nt]; exact hb
    refine ⟨_, rfl, b, _, 2, _, rfl, rfl, SqL.of hb1, i2, _, _, rfl, rfl, ?_⟩
    refine ⟨_, rfl, b, _, 2, 2, rfl, rfl, hb1, rfl, ?_⟩
    have hb2 : (upd (upd H t (.tup (primes.map V.int))) b (.lst [.int x, .int y, .int (z + 1)])) b = some (.lst [.int x, .int y, .int (z + 1)]) := upd_same
    have ht2 : (upd (upd H t (.tup (primes.map V.int))) b (.lst [.int x, .int y, .int (z + 1)])) t = some (.tup (primes.map V.int)) := by rw [upd_ne (Ne.symm nt), upd_same]
    refine ⟨_, rfl, b, _, 2, _, rfl, rfl, SqL.of hb2, i2, ?_⟩
    obtain ⟨c0, c1⟩ := base_le (y := y) (z := z + 1) hy hy1 (by omega) (by omega)
    refine ⟨_, rfl, b, _, 1, _, rfl, rfl, SqL.of hb2, i1, _, rfl, _, _, rfl, rfl, .inl ⟨by decide, by decide⟩, _, _, rfl, rfl, _, _, rfl, rfl, .inl ⟨by omega, by omega⟩, ?_⟩
    refine ⟨_, rfl, _, _, rfl, rfl, .inl ⟨by decide, by decide⟩, _, rfl, _, _, rfl, rfl, .inl ⟨by omega, by omega⟩, _, _, rfl, rfl, _, _, rfl, rfl, ?_⟩
    obtain ⟨p1, e1, p1a, p1b⟩ := primes_at (z := z + 1)
    obtain ⟨p2, e2, p2a, p2b⟩ := primes_at (z := z + 1 + 5)
    refine ⟨_, rfl, _, _, rfl, rfl, pow3 c0 c1, _, rfl, _, rfl, _, _, rfl, rfl, (by show (0 : Int) < 12; decide), t, _, _, _, rfl, rfl, SqT.of ht2, e1, _, _, rfl, rfl, p1a, ?_⟩
    refine ⟨_, rfl, _, rfl, _, _, rfl, rfl, _, _, rfl, rfl, (by show (0 : Int) < 12; decide), t, _, _, _, rfl, rfl, SqT.of ht2, e2, ?_⟩
    have f0 := Int.emod_nonneg ((y * (2 * (z + 1) + 1) + 7919 * (z + 1) * (z + 1) + 29) ^ 3) (show p1 ≠ 0 by omega)
    have f1 := Int.emod_lt_of_pos ((y * (2 * (z + 1) + 1) + 7919 * (z + 1) * (z + 1) + 29) ^ 3) p1a
    refine ⟨_, rfl, _, rfl, _, _, rfl, rfl, ⟨by decide, by decide⟩, _, _, rfl, rfl, _, _, rfl, rfl, .inl ⟨Int.lt_of_lt_of_le (by decide) f0, Int.lt_trans f1 (by omega)⟩, _, rfl, _, _, rfl, rfl, p2a, _, _, rfl, rfl, ⟨by decide, by decide⟩, _, rfl, _, _, rfl, rfl, hm0, ?_⟩
    refine q _ _ (Int.emod_nonneg _ (by omega)) (Int.emod_lt_of_pos _ hm0) ⟨x, y, z + 1, hb2, hx, hy, hy1, by omega, by omega⟩ fun a o na e => ?_
    rw [upd_ne na, upd_ne (ne_of_none e ht)]
    exact e
end
end SH

set_option Elab.async false
set_option linter.all false
set_option maxRecDepth 100000
namespace SH
open PySem L2
abbrev sKept : Stmt := topS 12
abbrev sNames : Stmt := topS 13
abbrev sNumber : Stmt := topS 14
theorem scKept : FnScope [] [] (defScope sKept) := ⟨rfl, rfl, rfl, by decide +kernel, rfl, by decide +kernel, by decide +kernel⟩
theorem scNames : FnScope ["_law_bag_here", "_law_many", "_law_letters", "_law_found", "_law_k", "_law_name", "_law_way", "_law_some", "_law_j", "_law_letter", "_law_one"] ["_law_bag_here", "_law_many"] (defScope sNames) := ⟨rfl, rfl, rfl, by decide +kernel, rfl, by decide +kernel, by decide +kernel⟩
theorem scNumber : FnScope ["_law_bag_here", "_law_way", "_law_found", "_law_k"] ["_law_bag_here"] (defScope sNumber) := ⟨rfl, rfl, rfl, by decide +kernel, rfl, by decide +kernel, by decide +kernel⟩
/-! ### mathematics -/
def kept : List Str := ["work", "room", "go", "call", "wait", "if", "else", "end", "give", "fail"]
def letters : Str := "abcdefghijklmnopqrstuvwxyz"
theorem menu {xs : List V} {i : Int} (h0 : 0 ≤ i) (h1 : i < xs.length) : ∃ v, atI xs i = some v ∧ v ∈ xs := by
  have hk : i.toNat < xs.length := by omega
  refine ⟨xs[i.toNat], ?_, List.getElem_mem hk⟩
  have q : atI xs ((i.toNat : Nat) : Int) = some xs[i.toNat] := atI_nat (List.getElem?_eq_getElem hk)
  rwa [show ((i.toNat : Nat) : Int) = i by omega] at q
theorem menuI {ns : List Int} {i : Int} (h0 : 0 ≤ i) (h1 : i < ns.length) : ∃ k, atI (ns.map V.int) i = some (.int k) ∧ k ∈ ns := by
  obtain ⟨v, e, m⟩ := menu (xs := ns.map V.int) h0 (by rw [List.length_map]; exact h1)
  obtain ⟨k, hk, rfl⟩ := List.mem_map.mp m
  exact ⟨k, e, hk⟩
theorem menuS {ns : List Str} {i : Int} (h0 : 0 ≤ i) (h1 : i < ns.length) : ∃ k, atI (ns.map V.str) i = some (.str k) ∧ k ∈ ns := by
  obtain ⟨v, e, m⟩ := menu (xs := ns.map V.str) h0 (by rw [List.length_map]; exact h1)
  obtain ⟨k, hk, rfl⟩ := List.mem_map.mp m
  exact ⟨k, e, hk⟩
theorem log_ok {i : Int} (h0 : 0 ≤ i) (h1 : i < 1000000 ^ 5) : i.natAbs.log2 < 1920 := by
  by_cases z : i.natAbs = 0
  · rw [z]; decide
  · rw [Nat.log2_lt z]
    have : i.natAbs < 2 ^ 100 := by
      have e : (1000000 : Int) ^ 5 = 1000000000000000000000000000000 := by decide
      have e2 : (2 : Nat) ^ 100 = 1267650600228229401496703205376 := by decide
      rw [e] at h1
      rw [e2]
      omega
    exact Nat.lt_trans this (Nat.pow_lt_pow_right (by decide) (by decide))
def codes (s : Str) : List Nat := s.cps.toList
theorem codes_len (s : Str) : (codes s).length = s.length := Array.length_toList
theorem codes_app (a b : Str) : codes (a ++ b) = codes a ++ codes b := by
  show (a.cps ++ b.cps).toList = _
  rw [Array.toList_append]
  all_goals rfl
theorem codes_inj {a b : Str} (h : codes a = codes b) : a = b := by
  cases a with | mk x =>
  cases b with | mk y =>
  have : x = y := Array.toList_inj.mp h
  rw [this]
/-- a text of one to eight letters -/
def nmOk (s : Str) : Prop := 1 ≤ (codes s).length ∧ (codes s).length ≤ 8 ∧ ∀ c ∈ codes s, 97 ≤ c ∧ c ≤ 122
structure NmsOk (l : List Str) : Prop where
  each : ∀ s ∈ l, nmOk s ∧ s ∉ kept
  nd : l.Nodup
theorem NmsOk.snoc {l : List Str} {s : Str} (h : NmsOk l) (a : nmOk s) (b : s ∉ l ++ kept) : NmsOk (l ++ [s]) := by
  refine ⟨fun x hx => ?_, ?_⟩
  · rcases List.mem_append.mp hx with hx | hx
    · exact h.each x hx
    · rw [List.mem_singleton.mp hx]
      exact ⟨a, fun q => b (List.mem_append_right _ q)⟩
  · exact nd_snoc h.nd fun q => b (List.mem_append_left _ q)
theorem join_codes : ∀ l : List Str, codes (PySem.Txt.join (PySem.Str.ofString "") l) = (l.map codes).flatten := by
  have step : ∀ l : List Str, codes (PySem.Str.join (PySem.Str.ofString "") l) = (l.map codes).flatten := by
    intro l
    induction l with
    | nil => rfl
    | cons a r ih =>
      cases r with
      | nil => show codes a = codes a ++ []; rw [List.append_nil]
      | cons b t =>
        show codes (a ++ PySem.Str.ofString "" ++ PySem.Str.join (PySem.Str.ofString "") (b :: t)) = codes a ++ ((b :: t).map codes).flatten
        rw [codes_app, codes_app, ih]
        have z : codes (PySem.Str.ofString "") = [] := by decide +kernel
        rw [z, List.append_nil]
  intro l
  show codes (Builtin.Str.glued (PySem.Str.ofString "") l) = _
  rw [StrLaws.glued_eq_join]
  exact step l
theorem pig : ∀ (xs L : List Str), xs.Nodup → L.length < xs.length → ∃ x ∈ xs, x ∉ L
  | [], L, _, h => absurd h (Nat.not_lt_zero _)
  | x :: r, L, hn, h => by
    obtain ⟨h1, h2⟩ := List.nodup_cons.mp hn
    by_cases hx : x ∈ L
    · have hl := List.length_erase_of_mem hx
      rw [List.length_cons] at h
      obtain ⟨y, hy, hyL⟩ := pig r (L.erase x) h2 (by have := List.length_pos_of_mem hx; omega)
      refine ⟨y, List.mem_cons_of_mem _ hy, fun q => hyL ?_⟩
      refine (List.mem_erase_of_ne ?_).mpr q
      intro e
      rw [e] at hy
      exact h1 hy
    · exact ⟨x, List.mem_cons_self, hx⟩
def one (c : Nat) : Str := ⟨#[c]⟩
theorem codes_one (c : Nat) : codes (one c) = [c] := rfl
/-- the twenty-six of a name: another first letter -/
def some26 (s : Str) : List Str := (codes letters).map fun c => one c ++ cutS s (some 1) none
theorem cut1 (s : Str) : codes (cutS s (some 1) none) = (codes s).drop 1 := by
  unfold cutS
  show (((s.cps.toList.drop (HT.sIx s.length 0 (some 1))).take (HT.sIx s.length s.length none - HT.sIx s.length 0 (some 1))).toArray).toList = _
  rw [List.toList_toArray, show HT.sIx s.length 0 (some 1) = min 1 s.length from HT.sIx_nat s.length 0 1, HT.sIx_none]
  show (List.drop (min 1 s.length) (codes s)).take (s.length - min 1 s.length) = (codes s).drop 1
  rw [← codes_len]
  cases hc : codes s with
  | nil => rfl
  | cons x r =>
    rw [show min 1 (x :: r).length = 1 by rw [List.length_cons]; omega]
    show r.take ((x :: r).length - 1) = r
    rw [List.length_cons, Nat.add_sub_cancel, List.take_length]
theorem cutN {s : Str} {n : Nat} : codes (cutS s none (some (n : Int))) = (codes s).take n := by
  unfold cutS
  show (((s.cps.toList.drop (HT.sIx s.length 0 none)).take (HT.sIx s.length s.length (some (n : Int)) - HT.sIx s.length 0 none)).toArray).toList = _
  rw [List.toList_toArray, HT.sIx_nat, HT.sIx_none]
  show (List.drop 0 (codes s)).take (min n s.length - 0) = (codes s).take n
  rw [List.drop_zero, Nat.sub_zero, ← codes_len]
  by_cases h : n ≤ (codes s).length
  · rw [Nat.min_eq_left h]
  · rw [Nat.min_eq_right (by omega), List.take_length, List.take_of_length_le (by omega)]
theorem some26_nd (s : Str) : (some26 s).Nodup := by
  have base : (codes letters).Nodup := by decide +kernel
  unfold some26
  refine List.Pairwise.map _ ?_ base
  intro a b hab e
  have q := congrArg codes e
  rw [codes_app, codes_app, codes_one, codes_one] at q
  exact hab (List.cons.inj q).1
theorem some26_len (s : Str) : (some26 s).length = 26 := by
  unfold some26
  rw [List.length_map]
  decide +kernel
theorem letters_ok : ∀ c ∈ codes letters, 97 ≤ c ∧ c ≤ 122 := by decide +kernel
theorem kept_ok : ∀ s ∈ kept, ∀ c ∈ codes s, 97 ≤ c ∧ c ≤ 122 := by decide +kernel
theorem kept_pos : ∀ s ∈ kept, 1 ≤ (codes s).length ∧ (codes s).length ≤ 4 := by decide +kernel
theorem some26_ok {s t : Str} (h : nmOk s) (ht : t ∈ some26 s) : nmOk t := by
  unfold some26 at ht
  obtain ⟨c, hc, rfl⟩ := List.mem_map.mp ht
  obtain ⟨h1, h2, h3⟩ := h
  have e : codes (one c ++ cutS s (some 1) none) = c :: (codes s).drop 1 := by rw [codes_app, codes_one, cut1]; rfl
  refine ⟨?_, ?_, ?_⟩
  · rw [e, List.length_cons]; omega
  · rw [e, List.length_cons, List.length_drop]; omega
  · rw [e]
    intro x hx
    rcases List.mem_cons.mp hx with rfl | hx
    · exact letters_ok _ hc
    · exact h3 _ (List.mem_of_mem_drop hx)
theorem inV_str {x : Str} : ∀ {l : List Str}, inV (.str x) (l.map V.str) = decide (x ∈ l)
  | [] => rfl
  | y :: r => by
    show (eqV (.str y) (.str x) || inV (.str x) (r.map V.str)) = _
    rw [inV_str (l := r)]
    show ((y == x) || decide (x ∈ r)) = _
    by_cases e : x = y
    · subst e; simp
    · have e' : (y == x) = false := by simpa using fun h => e h.symm
      rw [e', Bool.false_or]
      simp [e]
theorem flat_strs (l : List Str) : (l.map V.str).all flatV = true := by
  rw [List.all_eq_true]
  intro x hx
  obtain ⟨s, _, rfl⟩ := List.mem_map.mp hx
  rfl
def spKept : Sp := fun vs H Q _ => vs = [] ∧ ∀ p, H p = none → Q (.ref p) (upd H p (.lst (kept.map V.str)))
def spNumber : Sp := fun vs H Q _ => ∃ (b : Addr) (n : Nat), vs = [.ref b] ∧ Bag H b (n + 8) ∧
  ∀ (i : Int) (H' : Hp), 0 ≤ i → i < 1000000 ^ 5 → Bag H' b n → But b H H' → Q (.int i) H'
def spNames : Sp := fun vs H Q _ => ∃ (b : Addr) (m n : Nat), vs = [.ref b, .int m] ∧ m ≤ 12 ∧ Bag H b (n + 16 * m) ∧
  ∀ (p : Addr) (nm : List Str) (H' : Hp), H p = none → H' p = some (.lst (nm.map V.str)) → nm.length = m → NmsOk nm → Bag H' b n → But b H H' → Q (.ref p) H'
section
variable {P : Program} {w : World} {K : PySem.W.Frag} {mg : Str → Option Value} {base : Heap}
theorem ok_kept {f : Addr} {fd : FuncData} (F : Fun K "_law_kept" "_law_kept" sKept f fd) : FnOk P w K mg base CX0 1 f fd [] spKept := by
  refine F.ok scKept (fun vs H Q E h => ?_) (fun cdv A outer s H vs Q E hr h => ?_)
  · obtain ⟨rfl, _⟩ := h
    rfl
  obtain ⟨rfl, q⟩ := h
  refine ⟨_, (pss_one (ps_ret (pe_lst (pa_cons pe_str (pa_cons pe_str (pa_cons pe_str (pa_cons pe_str (pa_cons pe_str (pa_cons pe_str (pa_cons pe_str (pa_cons pe_str (pa_cons pe_str (pa_cons pe_str pa_nil))))))))))))), ?_⟩
  exact ⟨by show 10 ≤ sizeLine; decide, fun p hp => q p hp⟩
theorem But.new {b : Addr} {H : Hp} {p : Addr} (h : H p = none) (o : HO) : But b H (upd H p o) := .of (same_new h o)
theorem ok_number {f t : Addr} {fd td : FuncData} (F : Fun K "_law_number" "_law_number" sNumber f fd) (TK : Fk P w K mg base 1 "_law_take" t td ["_law_bag_here", "_law_many"] spTake) (T : Bi mg) :
    FnOk P w K mg base CX0 2 f fd ["_law_bag_here"] spNumber := by
  refine F.ok scNumber (fun vs H Q E h => ?_) (fun cdv A outer s H vs Q E hr h => ?_)
  · obtain ⟨b, n, rfl, _⟩ := h
    rfl
  obtain ⟨b, n, rfl, hB, q⟩ := h
  refine ⟨_, (pss_cons (ps_set (i := 1) scNumber.nd rfl (Or.inl rfl) (pe_call TK.G (hr.mono (by omega)) (by rfl) TK.m TK.k TK.b .nil pass0 (pa_cons (pv 0) (pa_cons pe_int pa_nil))))
    (pss_cons (ps_if (pt_cmpR op_lt (pv 1) pe_int (nomark _))
      (pss_one (ps_ret (pe_call TK.G (hr.mono (by omega)) (by rfl) TK.m TK.k TK.b .nil pass0 (pa_cons (pv 0) (pa_cons (pe_ix ix_list (pe_lst (pa_cons pe_int (pa_cons pe_int pa_nil))) (pv 1) (fun _ _ => rfl)) pa_nil)))))
      pss_nil)
    (pss_cons (ps_set (i := 2) scNumber.nd rfl (Or.inl rfl) pe_int)
    (pss_cons (ps_for PassesOwn.never rfl (pi_range1 (by rfl) T.range (pa_cons (pe_ix ix_list (pe_lst (pa_cons pe_int (pa_cons pe_int pa_nil))) (pe_op op_sub (pv 1) pe_int) (fun _ _ => rfl)) pa_nil)) (pg_name (i := 3) scNumber.nd rfl (.inl rfl))
      (pss_one (ps_set (i := 2) scNumber.nd rfl (Or.inl rfl) (pe_op op_add (pe_op op_mul (pv 2) (pe_op op_pow pe_int pe_int)) (pe_call TK.G (hr.mono (by omega)) (by rfl) TK.m TK.k TK.b .nil pass0 (pa_cons (pv 0) (pa_cons (pe_op op_pow pe_int pe_int) pa_nil)))))))
    (pss_one (ps_ret (pv 2))))))), ?_⟩
  refine ⟨_, rfl, b, 4, n + 7, rfl, by decide, by decide, hB, fun d1 H1 a1 a2 B1 U1 => ?_⟩
  refine ⟨_, rfl, _, _, rfl, rfl, _, rfl, ?_⟩
  refine ite2 (fun c => ?_) (fun c => ?_)
  · have c' : d1 < 2 := of_decide_eq_true c
    obtain ⟨v, e, hv⟩ := menuI (ns := [4, 30]) a1 (by show d1 < 2; exact c')
    have hv' : v = 4 ∨ v = 30 := by simpa using hv
    refine ⟨_, rfl, (by show 2 ≤ sizeLine; decide), fun l hl => ?_⟩
    refine ⟨_, rfl, l, _, _, _, rfl, rfl, SqL.of upd_same, e, b, v, n + 6, rfl, by omega, by omega, B1.same (same_new hl _), fun d2 H2 b1 b2 B2 U2 => ?_⟩
    refine q _ _ b1 ?_ (B2.less (by omega)) (U1.trans ((But.new hl _).trans U2))
    have e : (1000000 : Int) ^ 5 = 1000000000000000000000000000000 := by decide
    rw [e]
    omega
  · have c' : ¬ d1 < 2 := of_decide_eq_false (Bool.eq_false_iff.mpr c)
    obtain ⟨v, e, hv⟩ := menuI (ns := [2, 5]) (i := d1 - 2) (by omega) (by show d1 - 2 < 2; omega)
    have hv' : v = 2 ∨ v = 5 := by simpa using hv
    refine ⟨(by show 2 ≤ sizeLine; decide), fun l hl => ?_⟩
    refine ⟨_, rfl, _, _, rfl, rfl, l, _, _, _, rfl, rfl, SqL.of upd_same, e, v, rfl, by omega, by omega, ?_⟩
    refine for_range (lo := 0) (n := v.toNat) (fun i σ H' => ∃ (c : Int) (y : Option V), σ = [some (.ref b), some (.int d1), some (.int c), y] ∧ 0 ≤ c ∧ c < 1000000 ^ i ∧ Bag H' b (n + 5 - i) ∧ But b H H') ?_ ?_ ?_
    · exact ⟨0, none, rfl, Int.le_refl _, by decide, (B1.same (same_new hl _)).less (by omega), U1.trans (But.new hl _)⟩
    · rintro i σ H2 hi ⟨c, y, rfl, c0, c1, B2, U2⟩
      refine ⟨_, rfl, _, _, rfl, rfl, ⟨by decide, by decide, by decide⟩, _, _, rfl, rfl, .inr ⟨by decide, by decide⟩, ?_⟩
      refine ⟨_, rfl, _, _, rfl, rfl, ⟨by decide, by decide, by decide⟩, b, _, n + 4 - i, rfl, by decide, by decide, B2.less (by omega), fun d2 H3 b1 b2 B3 U3 => ?_⟩
      refine ⟨_, _, rfl, rfl, _, _, rfl, ?_, ?_, B3.less (by omega), U2.trans U3⟩
      · show 0 ≤ c * 1000000 + d2
        omega
      · have b2' : d2 < 1000000 := b2
        show c * 1000000 + d2 < 1000000 ^ (i + 1)
        rw [Int.pow_succ]
        generalize (1000000 : Int) ^ i = X at c1 ⊢
        omega
    · rintro σ H2 ⟨c, y, rfl, c0, c1, B2, U2⟩
      refine ⟨_, rfl, q c H2 c0 ?_ (B2.less (by omega)) U2⟩
      rcases hv' with rfl | rfl
      · exact Int.lt_trans c1 (by decide)
      · exact c1
end
end SH

set_option Elab.async false
set_option linter.all false
set_option maxRecDepth 100000
namespace SH
open PySem L2
theorem signs_ok {l : List Str} (h1 : 1 ≤ l.length) (h8 : l.length ≤ 8) (h : ∀ s ∈ l, ∃ c, s = one c ∧ 97 ≤ c ∧ c ≤ 122) : nmOk (PySem.Txt.join (PySem.Str.ofString "") l) := by
  have e : ∀ l : List Str, (∀ s ∈ l, ∃ c, s = one c ∧ 97 ≤ c ∧ c ≤ 122) → ((l.map codes).flatten).length = l.length ∧ ∀ c ∈ (l.map codes).flatten, 97 ≤ c ∧ c ≤ 122 := by
    intro l
    induction l with
    | nil => intro _; exact ⟨rfl, fun c hc => by cases hc⟩
    | cons a r ih =>
      intro h
      obtain ⟨i1, i2⟩ := ih fun s hs => h s (List.mem_cons_of_mem _ hs)
      obtain ⟨c, rfl, c1, c2⟩ := h a List.mem_cons_self
      refine ⟨?_, ?_⟩
      · show (c :: (r.map codes).flatten).length = r.length + 1
        rw [List.length_cons, i1]
      · intro x hx
        rcases List.mem_cons.mp (show x ∈ c :: (r.map codes).flatten from hx) with rfl | hx
        · exact ⟨c1, c2⟩
        · exact i2 x hx
  obtain ⟨e1, e2⟩ := e l h
  refine ⟨?_, ?_, ?_⟩
  · rw [join_codes, e1]; exact h1
  · rw [join_codes, e1]; exact h8
  · rw [join_codes]; exact e2
theorem pre_ok {k s : Str} {n : Nat} (hk : k ∈ kept) (hs : nmOk s) (h1 : 1 ≤ n) (h8 : n ≤ 8) : nmOk (cutS (k ++ s) none (some (n : Int))) := by
  obtain ⟨k1, k2⟩ := kept_pos k hk
  obtain ⟨s1, s2, s3⟩ := hs
  refine ⟨?_, ?_, ?_⟩
  · rw [cutN, codes_app, List.length_take, List.length_append]; omega
  · rw [cutN, List.length_take]; omega
  · rw [cutN, codes_app]
    intro c hc
    rcases List.mem_append.mp (List.mem_of_mem_take hc) with h | h
    · exact kept_ok k hk c h
    · exact s3 c h
theorem ones_len : ∀ l : List Str, (∀ s ∈ l, ∃ c, s = one c ∧ 97 ≤ c ∧ c ≤ 122) → (l.map (·.length)).sum = l.length
  | [], _ => rfl
  | a :: r, h => by
    have ih := ones_len r fun s hs => h s (List.mem_cons_of_mem _ hs)
    obtain ⟨c, rfl, _⟩ := h a List.mem_cons_self
    show (one c).length + (r.map (·.length)).sum = r.length + 1
    rw [ih]
    show 1 + r.length = r.length + 1
    omega
theorem letter_at {i : Int} (h0 : 0 ≤ i) (h1 : i < 26) : ∃ c, atI letters.cps.toList i = some c ∧ 97 ≤ c ∧ c ≤ 122 := by
  have hl : (codes letters).length = 26 := by decide +kernel
  have hk : i.toNat < (codes letters).length := by omega
  refine ⟨(codes letters)[i.toNat], ?_, letters_ok _ (List.getElem_mem hk)⟩
  have q : atI (codes letters) ((i.toNat : Nat) : Int) = some (codes letters)[i.toNat] := atI_nat (List.getElem?_eq_getElem hk)
  rwa [show ((i.toNat : Nat) : Int) = i by omega] at q
theorem filt_snoc {l : List Str} {L : List Str} {i : Nat} {x : Str} (h : l[i]? = some x) : (l.take (i + 1)).filter (fun y => !decide (y ∈ L)) = (l.take i).filter (fun y => !decide (y ∈ L)) ++ (if (!decide (x ∈ L)) = true then [x] else []) := by
  rw [List.take_add_one, h, List.filter_append]
  congr 1
  show List.filter _ [x] = _
  rw [List.filter_cons, List.filter_nil]
theorem names_len {l : List Str} (h : NmsOk l) : True := trivial
section
variable {P : Program} {w : World} {K : PySem.W.Frag} {mg : Str → Option Value} {base : Heap}
theorem ok_names {f t k : Addr} {fd td kd : FuncData} (F : Fun K "_law_names" "_law_names" sNames f fd) (TK : Fk P w K mg base 1 "_law_take" t td ["_law_bag_here", "_law_many"] spTake) (KP : Fk P w K mg base 1 "_law_kept" k kd [] spKept) (T : Bi mg) :
    FnOk P w K mg base CX0 2 f fd ["_law_bag_here", "_law_many"] spNames := by
  refine F.ok scNames (fun vs H Q E h => ?_) (fun cdv A outer s H vs Q E hr h => ?_)
  · obtain ⟨b, m, n, rfl, _⟩ := h
    rfl
  obtain ⟨b, m, n, rfl, hm, hB, q⟩ := h
  refine ⟨_, (pss_cons (ps_set (i := 2) scNames.nd rfl (Or.inr rfl) pe_str)
    (pss_cons (ps_set (i := 3) scNames.nd rfl (Or.inr rfl) (pe_lst pa_nil))
    (pss_cons (ps_for PassesOwn.never rfl (pi_range1 (by rfl) T.range (pa_cons (pv 1) pa_nil)) (pg_name (i := 4) scNames.nd rfl (.inl rfl))
      (pss_cons (ps_set (i := 5) scNames.nd rfl (Or.inr rfl) (pe_join pe_str (pe_lc (own := [("_law_j", 8)]) (g := gName 8) (tt := tYes) (by rfl) scNames.nd (pi_range1 (by rfl) T.range (pa_cons (pe_ix ix_list (pe_lst (pa_cons pe_int (pa_cons pe_int (pa_cons pe_int (pa_cons pe_int pa_nil))))) (pe_call TK.G (hr.mono (by omega)) (by rfl) TK.m TK.k TK.b .nil pass0 (pa_cons (pv 0) (pa_cons pe_int pa_nil))) (fun _ _ => rfl)) pa_nil)) (blkOk_by (own := [("_law_j", 8)]) (N := ["_law_bag_here", "_law_many", "_law_letters", "_law_found", "_law_k", "_law_name", "_law_way", "_law_some", "_law_j", "_law_letter", "_law_one"]) (sc := defScope sNames) (by decide +kernel)) (fun _ _ _ _ _ => pg_name (i := 8) scNames.nd rfl (Or.inl rfl)) (fun _ _ _ _ _ => pts_nil) (fun _ _ _ _ _ => (pe_ix ix_str (pv 2) (pe_call TK.G (hr.mono (by omega)) (by rfl) TK.m TK.k TK.b .nil pass0 (pa_cons (pv 0) (pa_cons pe_int pa_nil))) (fun _ _ => rfl))))))
    (pss_cons (ps_set (i := 6) scNames.nd rfl (Or.inl rfl) (pe_call TK.G (hr.mono (by omega)) (by rfl) TK.m TK.k TK.b .nil pass0 (pa_cons (pv 0) (pa_cons pe_int pa_nil))))
    (C8.pss_cut (ps_if (pt_cmpR op_lt (pv 6) pe_int (nomark _))
      (pss_one (ps_set (i := 5) scNames.nd rfl (Or.inr rfl) (pe_slice sl_str (pe_op op_add_str (pe_ix ix_list (pe_call0 KP.G (hr.mono (by omega)) (by rfl) KP.m KP.k KP.b .nil pass0) (pe_call TK.G (hr.mono (by omega)) (by rfl) TK.m TK.k TK.b .nil pass0 (pa_cons (pv 0) (pa_cons pe_int pa_nil))) (fun _ _ => rfl)) (pv 5)) po_none (po_some (pe_ix ix_list (pe_lst (pa_cons pe_int (pa_cons pe_int pa_nil))) (pv 6) (fun _ _ => rfl))))))
      pss_nil)
    (pss_cons (ps_setLc (i := 7) (own := [("_law_letter", 9)]) (g := gName 9) (tt := tYes) (by rfl) scNames.nd rfl rfl (sw_true rfl rfl rfl (by decide +kernel)) (pi_str (pv 2)) (blkOk_by (own := [("_law_letter", 9)]) (N := ["_law_bag_here", "_law_many", "_law_letters", "_law_found", "_law_k", "_law_name", "_law_way", "_law_some", "_law_j", "_law_letter", "_law_one"]) (sc := defScope sNames) (by decide +kernel)) (fun _ _ _ _ _ => pg_name (i := 9) scNames.nd rfl (Or.inl rfl)) (fun _ _ _ _ _ => pts_nil) (fun _ _ _ _ _ => (pe_op op_add_str (pv 9) (pe_slice sl_str (pv 5) (po_some pe_int) po_none))))
    (C8.pss_cut (ps_if (pt_cmpR op_in_seq (pv 5) (pe_op op_cat (pv 3) (pe_call0 KP.G (hr.mono (by omega)) (by rfl) KP.m KP.k KP.b .nil pass0)) rfl)
      (pss_one (ps_set (i := 5) scNames.nd rfl (Or.inr rfl) (pe_ix ix_list (pe_lc (own := [("_law_one", 10)]) (g := gName 10) (tt := tTest (tOp (rIn K true) (tVar 10) (tOp rCat (tVar 3) (tCall spKept [] E0 tNil)))) (by rfl) scNames.nd (pi_list (pv 7)) (blkOk_by (own := [("_law_one", 10)]) (N := ["_law_bag_here", "_law_many", "_law_letters", "_law_found", "_law_k", "_law_name", "_law_way", "_law_some", "_law_j", "_law_letter", "_law_one"]) (sc := defScope sNames) (by decide +kernel)) (fun _ _ _ _ _ => pg_name (i := 10) scNames.nd rfl (Or.inl rfl)) (fun _ _ _ _ _ => (pts_one (pt_cmpR (op_notIn_seqK K) (pv 10) (pe_op op_cat (pv 3) (pe_call0 KP.G (hr.mono (by omega)) (by rfl) KP.m KP.k KP.b .nil pass0)) rfl))) (fun _ _ _ _ _ => (pv 10))) pe_int (fun _ _ => rfl))))
      pss_nil)
    (pss_one (ps_expr (pe_bm PySem.F.plainAttrs_list PySem.F.slot_list_append PySem.F.type_list_append mt_append (pv 3) (pa_cons (pv 5) pa_nil))))))))))
    (pss_one (ps_ret (pv 3)))))), ?_⟩
  have hs : sizeLine = 16777216 := by decide
  refine ⟨Nat.zero_le _, fun p hp => ?_⟩
  obtain ⟨ys0, hb0⟩ := hB.lst
  have npb : p ≠ b := fun e => by rw [e, hb0] at hp; cases hp
  refine ⟨_, rfl, m, rfl, by omega, by omega, ?_⟩
  refine for_range (lo := 0) (n := (m : Int).toNat) (fun i σ H' => ∃ (nm : List Str) (y4 y5 y6 y7 : Option V), σ = [some (.ref b), some (.int m), some (.str letters), some (.ref p), y4, y5, y6, y7, none, none, none] ∧
    H' p = some (.lst (nm.map V.str)) ∧ nm.length = i ∧ NmsOk nm ∧ Bag H' b (n + 16 * (m - i)) ∧ But b H H') ?_ ?_ ?_
  · exact ⟨[], none, none, none, none, rfl, upd_same, rfl, ⟨fun s h => (by cases h), List.nodup_nil⟩, hB.same (same_new hp _), But.new hp _⟩
  · rintro i σ H1 hi ⟨nm, y4, y5, y6, y7, rfl, hp1, hl, hN, B1, U1⟩
    have hi' : i < m := by omega
    -- the name by its letters
    refine ⟨⟨_, rfl⟩, (by show 4 ≤ sizeLine; decide), fun l1 hl1 => ?_⟩
    refine ⟨_, rfl, b, 4, n + 16 * (m - i) - 1, rfl, by decide, by decide, (B1.same (same_new hl1 _)).less (by omega), fun d1 H2 a1 a2 B2 U2 => ?_⟩
    have nb1 : l1 ≠ b := fun e => by obtain ⟨ys, hy⟩ := B1.lst; rw [e, hy] at hl1; cases hl1
    have hl2 : H2 l1 = some (.lst (([1, 2, 3, 8] : List Int).map V.int)) := U2 _ _ nb1 upd_same
    obtain ⟨v, ev, hv⟩ := menuI (ns := [1, 2, 3, 8]) a1 (by show d1 < 4; exact a2)
    have hv' : 1 ≤ v ∧ v ≤ 8 := by
      have : v = 1 ∨ v = 2 ∨ v = 3 ∨ v = 8 := by simpa using hv
      omega
    refine ⟨l1, _, _, _, rfl, rfl, SqL.of hl2, ev, v, rfl, by omega, by omega, ?_⟩
    intro D hD
    have hp2 : H2 p = some (.lst (nm.map V.str)) := U2 _ _ npb ((same_new hl1 _) _ _ hp1)
    have nDb : D ≠ b := fun e => by obtain ⟨ys, hy⟩ := B2.lst; rw [e, hy] at hD; cases hD
    have nDp : D ≠ p := fun e => by rw [e, hp2] at hD; cases hD
    have U12 : But b H1 H2 := (But.new hl1 _).trans U2
    refine lc_range (lo := 0) (n := v.toNat) (fun j H' => ∃ ss : List Str, H' D = some (.lst (ss.map V.str)) ∧ ss.length = j ∧ (∀ s ∈ ss, ∃ c, s = one c ∧ 97 ≤ c ∧ c ≤ 122) ∧ Bag H' b (n + 16 * (m - i) - 1 - j) ∧ (∀ a o, a ≠ b → a ≠ D → H2 a = some o → H' a = some o)) ?_ ?_ ?_
    · refine ⟨[], upd_same, rfl, fun s h => (by cases h), (B2.same (same_new hD _)).less (by omega), fun a o _ _ e => (same_new hD _) _ _ e⟩
    · rintro j H3 hj ⟨ss, hD3, hss, hone, B3, U3⟩
      refine ⟨rfl, ?_⟩
      refine ⟨_, rfl, _, rfl, b, 26, n + 16 * (m - i) - 2 - j, rfl, by decide, by decide, B3.less (by omega), fun d2 H4 b1 b2 B4 U4 => ?_⟩
      obtain ⟨c, ec, c1, c2⟩ := letter_at b1 b2
      refine ⟨letters, _, c, rfl, rfl, (by show letters.length ≤ sizeLine; decide +kernel), ec, ?_⟩
      refine ⟨_, U4 _ _ nDb hD3, by rw [List.length_map, hss]; omega, ss ++ [one c], ?_, by rw [List.length_append, hss]; rfl, ?_, ?_, ?_⟩
      · rw [upd_same, List.map_append]
        rfl
      · intro s hs'
        rcases List.mem_append.mp hs' with h | h
        · exact hone s h
        · exact ⟨c, List.mem_singleton.mp h, c1, c2⟩
      · have B5 : Bag (upd H4 D (.lst (ss.map V.str ++ [V.str (one c)]))) b (n + 16 * (m - i) - 2 - j) := by
          obtain ⟨x, y, z, e, r⟩ := B4
          exact ⟨x, y, z, by rw [upd_ne (Ne.symm nDb)]; exact e, r⟩
        exact B5.less (by omega)
      · intro a o na nd e
        rw [upd_ne nd]
        exact U4 _ _ na (U3 a o na nd e)
    · rintro H3 ⟨ss, hD3, hss, hone, B3, U3⟩
      have hp3 : H3 p = some (.lst (nm.map V.str)) := U3 _ _ npb (Ne.symm nDp) hp2
      have U13 : But b H1 H3 := fun a o na e => U3 a o na (ne_of_none (U12 a o na e) hD) (U12 a o na e)
      refine ⟨_, D, ss, rfl, rfl, .inl (SqL.of hD3), ?_, ?_⟩
      · rw [ones_len ss hone, hss]
        have z : (PySem.Str.ofString "").length = 0 := by decide
        rw [z]
        omega
      have nok : nmOk (PySem.Txt.join (PySem.Str.ofString "") ss) := signs_ok (by rw [hss]; omega) (by rw [hss]; omega) hone
      generalize PySem.Txt.join (PySem.Str.ofString "") ss = nme at nok
      -- its way
      refine ⟨_, rfl, b, 8, n + 16 * (m - i) - 10, rfl, by decide, by decide, B3.less (by omega), fun d3 H4 c1 c2 B4 U4 => ?_⟩
      have hp4 : H4 p = some (.lst (nm.map V.str)) := U4 _ _ npb hp3
      refine ⟨fun σ' H' => ∃ nme', nmOk nme' ∧ σ' = [some (.ref b), some (.int m), some (.str letters), some (.ref p), some (.int (0 + i)), some (.str nme'), some (.int d3), y7, none, none, none] ∧ H' p = some (.lst (nm.map V.str)) ∧ Bag H' b (n + 16 * (m - i) - 11) ∧ But b H1 H', ?_, ?_⟩
      · refine ⟨_, rfl, _, _, rfl, rfl, _, rfl, ?_⟩
        refine ite2 (fun c => ?_) (fun c => ?_)
        · have c' : d3 < 2 := of_decide_eq_true c
          refine ⟨rfl, fun kp hkp => ?_⟩
          have nkb : kp ≠ b := fun e => by obtain ⟨ys, hy⟩ := B4.lst; rw [e, hy] at hkp; cases hkp
          refine ⟨_, rfl, b, 10, n + 16 * (m - i) - 11, rfl, by decide, by decide, (B4.same (same_new hkp _)).less (by omega), fun d4 H5 e1 e2 B5 U5 => ?_⟩
          obtain ⟨kw, ek, hk⟩ := menuS (ns := kept) e1 (by show d4 < 10; exact e2)
          have hk5 : H5 kp = some (.lst (kept.map V.str)) := U5 _ _ nkb upd_same
          refine ⟨kp, _, _, _, rfl, rfl, SqL.of hk5, ek, _, rfl, kw, nme, rfl, rfl, ?_, ?_⟩
          · have k2 := (kept_pos kw hk).2
            have n2 := nok.2.1
            rw [codes_len] at k2 n2
            omega
          obtain ⟨lim, el, hlim⟩ := menuI (ns := [8, 5]) c1 (by show d3 < 2; exact c')
          have hlim' : lim = 8 ∨ lim = 5 := by simpa using hlim
          refine ⟨(by show 2 ≤ sizeLine; decide), fun l2 hl2' => ?_⟩
          refine ⟨_, rfl, l2, _, _, _, rfl, rfl, SqL.of upd_same, el, _, rfl, kw ++ nme, rfl, ?_, ?_⟩
          · have k2 := (kept_pos kw hk).2
            have n2 := nok.2.1
            rw [codes_len] at k2 n2
            rw [app_len]
            omega
          refine ⟨cutS (kw ++ nme) none (some lim), ?_, rfl, ?_, ?_, ?_⟩
          · rcases hlim' with rfl | rfl
            · exact pre_ok (n := 8) hk nok (by decide) (by decide)
            · exact pre_ok (n := 5) hk nok (by decide) (by decide)
          · exact (same_new hl2' _) _ _ (U5 _ _ npb ((same_new hkp _) _ _ hp4))
          · exact B5.same (same_new hl2' _)
          · exact U13.trans (U4.trans ((But.new hkp _).trans (U5.trans (But.new hl2' _))))
        · exact ⟨nme, nok, rfl, hp4, B4.less (by omega), U13.trans U4⟩
      · rintro σ' H5 ⟨nme', nok', rfl, hp5, B5, U5⟩
        -- the twenty-six others
        refine ⟨_, rfl, letters, rfl, ?_⟩
        intro D2 hD2
        have nD2b : D2 ≠ b := fun e => by obtain ⟨ys, hy⟩ := B5.lst; rw [e, hy] at hD2; cases hD2
        have sz : letters.cps.size = 26 := by decide +kernel
        refine lc_it walk_str (fun j H' => H' = upd H5 D2 (.lst (((some26 nme').take j).map V.str))) rfl (fun _ _ _ _ => trivial) ?_ ?_
        · rintro j x H6 H7 hj rfl ⟨rfl, c, hc, rfl⟩
          refine ⟨rfl, ?_⟩
          refine ⟨_, rfl, _, rfl, 1, rfl, nme', rfl, ?_, one c, _, rfl, rfl, ?_, ?_⟩
          · have := nok'.2.1
            rw [codes_len] at this
            omega
          · have := nok'.2.1
            have e1 := cut1 nme'
            have e2 := congrArg List.length e1
            rw [codes_len, List.length_drop] at e2
            have e3 : (one c).length = 1 := rfl
            omega
          · refine ⟨_, upd_same, ?_, ?_⟩
            · rw [List.length_map, List.length_take]
              omega
            · have hx : (some26 nme')[j]? = some (one c ++ cutS nme' (some 1) none) := by
                unfold some26
                rw [List.getElem?_map, show (codes letters)[j]? = some c from by unfold codes; rw [Array.getElem?_toList]; exact hc]
                rfl
              rw [List.take_add_one, hx, List.map_append]
              funext a
              by_cases ha : a = D2
              · subst ha
                rw [upd_same, upd_same]
                rfl
              · rw [upd_ne ha, upd_ne ha, upd_ne ha]
        · rintro H6 rfl
          have e26 : (some26 nme').take letters.cps.size = some26 nme' := List.take_of_length_le (by rw [some26_len, sz]; omega)
          rw [e26]
          have s6 : Same H5 (upd H5 D2 (.lst ((some26 nme').map V.str))) := same_new hD2 _
          have hD6 : (upd H5 D2 (.lst ((some26 nme').map V.str))) D2 = some (.lst ((some26 nme').map V.str)) := upd_same
          generalize upd H5 D2 (.lst ((some26 nme').map V.str)) = H6 at s6 hD6
          have hp6 := s6 _ _ hp5
          have B6 := B5.same s6
          have len12 : (nm ++ kept).length ≤ 22 := by
            rw [List.length_append]
            have : kept.length = 10 := rfl
            omega
          refine ⟨fun σ' H' => ∃ fin, nmOk fin ∧ fin ∉ nm ++ kept ∧ σ' = [some (.ref b), some (.int m), some (.str letters), some (.ref p), some (.int (0 + i)), some (.str fin), some (.int d3), some (.ref D2), none, none, none] ∧ Same H6 H', ?_, ?_⟩
          · refine ⟨_, rfl, _, rfl, rfl, fun kp hkp => ?_⟩
            have sk : Same H6 (upd H6 kp (.lst (kept.map V.str))) := same_new hkp _
            refine ⟨p, kp, _, _, rfl, rfl, sk _ _ hp6, upd_same, ?_, fun u hu => ?_⟩
            · rw [List.length_map, List.length_map]
              have : kept.length = 10 := rfl
              omega
            have su : Same _ _ := same_new hu (.lst (nm.map V.str ++ kept.map V.str))
            refine ⟨u, _, rfl, .inl (SqL.of upd_same), rfl, ?_, _, rfl, ?_⟩
            · rw [← List.map_append]; exact flat_strs _
            rw [← List.map_append] at su ⊢
            rw [if_neg Bool.false_ne_true, inV_str]
            refine ite2 (fun c => ?_) (fun c => ?_)
            · have su' := sk.trans su
              generalize upd (upd H6 kp (.lst (kept.map V.str))) u (.lst ((nm ++ kept).map V.str)) = H8 at su'
              -- [one for one in some if ..][0]
              refine ⟨_, rfl, D2, rfl, ⟨_, SqL.of (su' _ _ hD6)⟩, ?_⟩
              intro D3 hD3
              refine lc_list (K := K) (a := D2) (xs := (some26 nme').map V.str) (fun j H' => H' D3 = some (.lst ((((some26 nme').take j).filter (fun y => !decide (y ∈ nm ++ kept))).map V.str)) ∧ Same H8 H') ⟨upd_same, same_new hD3 _⟩ (fun j H' _ h => SqL.of (h.2 _ _ (su' _ _ hD6))) ?_ ?_
              · rintro j x H9 hx ⟨h9, s9⟩
                obtain ⟨x', hx', rfl⟩ : ∃ x', (some26 nme')[j]? = some x' ∧ V.str x' = x := by
                  rw [List.getElem?_map] at hx
                  obtain ⟨x', h1, h2⟩ := Option.map_eq_some_iff.mp hx
                  exact ⟨x', h1, h2⟩
                have hj26 : j < 26 := by
                  obtain ⟨h1, _⟩ := List.getElem?_eq_some_iff.mp hx'
                  rwa [some26_len] at h1
                refine ⟨rfl, ?_⟩
                refine ⟨_, rfl, _, rfl, rfl, fun kp2 hkp2 => ?_⟩
                have sk2 : Same H9 (upd H9 kp2 (.lst (kept.map V.str))) := same_new hkp2 _
                refine ⟨p, kp2, _, _, rfl, rfl, sk2 _ _ (s9 _ _ (su' _ _ hp6)), upd_same, ?_, fun u2 hu2 => ?_⟩
                · rw [List.length_map, List.length_map]
                  have : kept.length = 10 := rfl
                  omega
                have su2 : Same _ _ := same_new hu2 (.lst (nm.map V.str ++ kept.map V.str))
                refine ⟨u2, _, rfl, .inl (SqL.of upd_same), rfl, ?_, _, rfl, ?_⟩
                · rw [← List.map_append]; exact flat_strs _
                rw [← List.map_append] at su2 ⊢
                rw [if_pos rfl, inV_str]
                have s10 := sk2.trans su2
                generalize upd (upd H9 kp2 (.lst (kept.map V.str))) u2 (.lst ((nm ++ kept).map V.str)) = H10 at s10
                have fs := filt_snoc (L := nm ++ kept) hx'
                refine ite2 (fun c2 => ?_) (fun c2 => ?_)
                · refine ⟨_, rfl, _, s10 _ _ h9, ?_, ?_, ?_⟩
                  · rw [List.length_map]
                    have := List.length_filter_le (fun y => !decide (y ∈ nm ++ kept)) ((some26 nme').take j)
                    rw [List.length_take, some26_len] at this
                    omega
                  · rw [upd_same, fs, if_pos c2, List.map_append]
                    rfl
                  · intro a o e
                    rw [upd_ne (ne_of_none e hD3)]
                    exact s10 _ _ (s9 _ _ e)
                · refine ⟨?_, s9.trans s10⟩
                  rw [fs, if_neg c2, List.append_nil]
                  exact s10 _ _ h9
              · rintro H9 ⟨h9, s9⟩
                rw [List.length_map, List.take_length] at h9
                obtain ⟨x, hx, hxL⟩ := pig (some26 nme') (nm ++ kept) (some26_nd _) (by rw [some26_len]; omega)
                have hin : x ∈ (some26 nme').filter (fun y => !decide (y ∈ nm ++ kept)) := List.mem_filter.mpr ⟨hx, by rw [decide_eq_false hxL]; rfl⟩
                cases hf : (some26 nme').filter (fun y => !decide (y ∈ nm ++ kept)) with
                | nil => rw [hf] at hin; cases hin
                | cons z r =>
                  have hz : z ∈ (some26 nme').filter (fun y => !decide (y ∈ nm ++ kept)) := by rw [hf]; exact List.mem_cons_self
                  obtain ⟨z1, z2⟩ := List.mem_filter.mp hz
                  rw [hf] at h9
                  refine ⟨D3, _, 0, .str z, rfl, rfl, SqL.of h9, atI_nat (j := 0) rfl, z, some26_ok nok' z1, ?_, rfl, su'.trans s9⟩
                  intro q
                  rw [decide_eq_true q] at z2
                  cases z2
            · refine ⟨nme', nok', ?_, rfl, sk.trans su⟩
              exact of_decide_eq_false (Bool.eq_false_iff.mpr c)
          · rintro σ' H7 ⟨fin, fok, fno, rfl, s7⟩
            have hp7 := s7 _ _ hp6
            refine ⟨_, rfl, .inl ⟨rfl, _, SqL.of hp7⟩, _, rfl, p, _, _, rfl, rfl, hp7, ?_, ?_⟩
            · rw [List.length_map]
              omega
            · refine ⟨nm ++ [fin], _, _, _, _, rfl, ?_, ?_, hN.snoc fok fno, ?_, ?_⟩
              · rw [upd_same, List.map_append]
                rfl
              · rw [List.length_append, hl]
                rfl
              · obtain ⟨x, y, z, e, r1, r2, r3, r4, r5⟩ := B6.same s7
                exact ⟨x, y, z, by rw [upd_ne (Ne.symm npb)]; exact e, r1, r2, r3, r4, by omega⟩
              · intro a o na e
                have hap : a ≠ p := ne_of_none e hp
                rw [upd_ne hap]
                exact s7 _ _ (s6 _ _ (U5 _ _ na (U1 _ _ na e)))
  · rintro σ H1 ⟨nm, y4, y5, y6, y7, rfl, hp1, hl, hN, B1, U1⟩
    exact ⟨_, rfl, q p nm H1 hp hp1 (by omega) hN (B1.less (by omega)) U1⟩
end
end SH

set_option Elab.async false
set_option linter.all false
set_option maxRecDepth 100000
namespace SH
open PySem L2
abbrev sTree : Stmt := topS 15
theorem scTree : FnScope ["_law_bag_here", "_law_names_here", "_law_deep", "_law_way", "_law_sign"] ["_law_bag_here", "_law_names_here", "_law_deep"] (defScope sTree) := ⟨rfl, rfl, rfl, by decide +kernel, rfl, by decide +kernel, by decide +kernel⟩
/-- an expression at most n deep, of these names -/
def Ex.of (nm : List Str) : Nat → Ex → Prop
  | 0, _ => False
  | _ + 1, .num i => 0 ≤ i ∧ i < 1000000 ^ 5
  | _ + 1, .nam s => s ∈ nm
  | n + 1, .op _ l r => Ex.of nm n l ∧ Ex.of nm n r
theorem Ex.of_up {nm : List Str} : ∀ {n m : Nat} {e : Ex}, n ≤ m → Ex.of nm n e → Ex.of nm m e
  | 0, _, _, _, h => h.elim
  | n + 1, m + 1, .num _, _, h => h
  | n + 1, m + 1, .nam _, _, h => h
  | n + 1, m + 1, .op _ _ _, hm, h => ⟨Ex.of_up (by omega) h.1, Ex.of_up (by omega) h.2⟩
theorem Ex.of_ok {nm : List Str} (hn : ∀ s ∈ nm, nmOk s) : ∀ {n : Nat} {e : Ex}, Ex.of nm n e → Ex.ok n e
  | 0, _, h => h
  | n + 1, .num i, h => log_ok h.1 h.2
  | n + 1, .nam s, h => by
    have q := (hn s h).2.1
    rw [codes_len] at q
    show s.length ≤ 2000
    omega
  | n + 1, .op _ _ _, h => ⟨Ex.of_ok hn h.1, Ex.of_ok hn h.2⟩
def sgs : List Sg := [.add, .sub, .mul, .lt, .eq]
def tc : Nat → Nat
  | 0 => 0
  | n + 1 => 2 * tc n + 12
def spTree (n : Nat) : Sp := fun vs H Q _ => ∃ (b a : Addr) (nm : List Str) (k : Nat), vs = [.ref b, .ref a, .int n] ∧ H a = some (.lst (nm.map V.str)) ∧ a ≠ b ∧ nm.length ≤ 1000 ∧ (∀ s ∈ nm, nmOk s) ∧ 1 ≤ n ∧ Bag H b (k + tc n) ∧
  ∀ (v : V) (e : Ex) (H' : Hp), TrIn H' e v → Ex.of nm n e → Bag H' b k → But b H H' → Q v H'
theorem sgs_at {i : Int} (h0 : 0 ≤ i) (h1 : i < 5) : ∃ g : Sg, atI (sgs.map fun g => V.str g.txt) i = some (.str g.txt) := by
  obtain ⟨v, e, m⟩ := menu (xs := sgs.map fun g => V.str g.txt) h0 (by show i < 5; exact h1)
  obtain ⟨g, _, rfl⟩ := List.mem_map.mp m
  exact ⟨g, e⟩
theorem strOk_nm {s : Str} (h : nmOk s) : PyData.strOk s = true := by
  unfold PyData.strOk
  rw [Array.all_eq_true']
  intro x hx
  have := (h.2.2 x (Array.mem_toList_iff.mpr hx)).2
  exact decide_eq_true (by omega)
theorem dp_strs {K : PySem.W.Frag} {H : Hp} : ∀ l : List Str, DpAll K H (l.map V.str) (l.map PyData.str)
  | [] => .nil
  | _ :: r => .cons (.str _) (dp_strs r)
theorem lay_strs : ∀ {l : List Str}, (∀ s ∈ l, nmOk s) → PyData.canLayAll0 (l.map PyData.str) = true ∧ PyData.depthAll (l.map PyData.str) = 0
  | [], _ => ⟨rfl, rfl⟩
  | a :: r, h => by
    obtain ⟨h1, h2⟩ := lay_strs (l := r) fun s hs => h s (List.mem_cons_of_mem _ hs)
    refine ⟨?_, ?_⟩
    · show (PyData.strOk a && PyData.canLayAll0 (r.map PyData.str)) = true
      rw [strOk_nm (h a List.mem_cons_self), h1] <;> rfl
    · show max 0 (PyData.depthAll (r.map PyData.str)) = 0
      rw [h2] <;> rfl
theorem shaped_strs {l : List Str} (h : ∀ s ∈ l, nmOk s) : SeqAt.shaped (.list (l.map PyData.str)) = true := by
  obtain ⟨h1, h2⟩ := lay_strs h
  show (PyData.canLayAll0 (l.map PyData.str) && decide (PyData.depthAll (l.map PyData.str) + 1 ≤ 64)) = true
  rw [h1, h2] <;> rfl
theorem trNum {H : Hp} {p : Addr} {i : Int} (h : H p = some (.tup [.str "number", .int i])) : TrIn H (.num i) (.ref p) := ⟨p, rfl, h⟩
theorem trNam {H : Hp} {p : Addr} {i : Str} (h : H p = some (.tup [.str "name", .str i])) : TrIn H (.nam i) (.ref p) := ⟨p, rfl, h⟩
def spTrees (N : Nat) : Sp := fun vs H Q E => ∃ n, n ≤ N ∧ spTree n vs H Q E
section
variable {P : Program} {w : World} {K : PySem.W.Frag} {mg : Str → Option Value} {base : Heap}
theorem ok_tree {n : Nat} {f t u : Addr} {fd td ud : FuncData} (F : Fun K "_law_tree" "_law_tree" sTree f fd) (TK : Fk P w K mg base 1 "_law_take" t td ["_law_bag_here", "_law_many"] spTake) (NB : Fk P w K mg base 2 "_law_number" u ud ["_law_bag_here"] spNumber)
    (TR : Fk P w K mg base (n + 2) "_law_tree" f fd ["_law_bag_here", "_law_names_here", "_law_deep"] (spTree n)) (T : Bi mg) : FnOk P w K mg base CX0 (n + 3) f fd ["_law_bag_here", "_law_names_here", "_law_deep"] (spTree (n + 1)) := by
  refine F.ok scTree (fun vs H Q E h => ?_) (fun cdv A outer s H vs Q E hr h => ?_)
  · obtain ⟨b, a, nm, k, rfl, _⟩ := h
    rfl
  obtain ⟨b, a, nm, k, rfl, ha, nab, hnl, hnm, _, hB, q⟩ := h
  refine ⟨_, (pss_cons (ps_set (i := 3) scTree.nd rfl (Or.inl rfl) (pe_call TK.G (hr.mono (by omega)) (by rfl) TK.m TK.k TK.b .nil pass0 (pa_cons (pv 0) (pa_cons pe_int pa_nil))))
    (pss_cons (ps_if (PW.pt (pw_or (pt_cmpR op_eq (pv 2) pe_int (nomark _)) (pw_or1 (pt_cmpR op_eq (pv 3) pe_int (nomark _)))))
      (C8.pss_cut (ps_if (PW.pt (pw_and (pt_cmpR (op_neD hr.units) (pv 1) (pe_lst pa_nil) (nomark _)) (pw_and1 (pt_cmpR op_gt (pe_call TK.G (hr.mono (by omega)) (by rfl) TK.m TK.k TK.b .nil pass0 (pa_cons (pv 0) (pa_cons pe_int pa_nil))) pe_int (nomark _)))))
      (pss_one (ps_ret (pe_tup (pa_cons pe_str (pa_cons (pe_ix ix_list (pv 1) (pe_call TK.G (hr.mono (by omega)) (by rfl) TK.m TK.k TK.b .nil pass0 (pa_cons (pv 0) (pa_cons (pe_callB call_len_seq (by rfl) T.len (by decide +kernel) (pa_cons (pv 1) pa_nil)) pa_nil))) (fun _ _ => rfl)) pa_nil)))))
      pss_nil)
    (pss_one (ps_ret (pe_tup (pa_cons pe_str (pa_cons (pe_call NB.G (hr.mono (by omega)) (by rfl) NB.m NB.k NB.b .nil pass0 (pa_cons (pv 0) pa_nil)) pa_nil))))))
      pss_nil)
    (pss_cons (ps_set (i := 4) scTree.nd rfl (Or.inl rfl) (pe_ix ix_list (pe_lst (pa_cons pe_str (pa_cons pe_str (pa_cons pe_str (pa_cons pe_str (pa_cons pe_str pa_nil)))))) (pe_call TK.G (hr.mono (by omega)) (by rfl) TK.m TK.k TK.b .nil pass0 (pa_cons (pv 0) (pa_cons pe_int pa_nil))) (fun _ _ => rfl)))
    (pss_one (ps_ret (pe_tup (pa_cons (pv 4) (pa_cons (pe_call TR.G hr (by rfl) TR.m TR.k TR.b .nil pass0 (pa_cons (pv 0) (pa_cons (pv 1) (pa_cons (pe_op op_sub (pv 2) pe_int) pa_nil)))) (pa_cons (pe_call TR.G hr (by rfl) TR.m TR.k TR.b .nil pass0 (pa_cons (pv 0) (pa_cons (pv 1) (pa_cons (pe_op op_sub (pv 2) pe_int) pa_nil)))) pa_nil))))))))), ?_⟩
  have hs : sizeLine = 16777216 := by decide
  have htc : tc (n + 1) = 2 * tc n + 12 := rfl
  refine ⟨_, rfl, b, 5, k + 2 * tc n + 11, rfl, by decide, by decide, hB, fun d1 H1 a1 a2 B1 U1 => ?_⟩
  have ha1 := U1 _ _ nab ha
  refine ⟨_, rfl, rfl, _, rfl, ?_⟩
  refine ite2 (fun c => ?leafA) (fun c => ⟨_, rfl, rfl, _, rfl, ite2 (fun c2 => ?leafB) (fun c2 => ?rec)⟩)
  case rec =>
    have hn1 : 1 ≤ n := by
      have c' : ¬ (V.int ((n + 1 : Nat) : Int) = V.int 1) := of_decide_eq_false (Bool.eq_false_iff.mpr c)
      rcases Nat.eq_zero_or_pos n with z | z
      · exact absurd (by rw [z]; rfl) c'
      · exact z
    refine ⟨(by show 5 ≤ sizeLine; decide), fun l hl => ?_⟩
    refine ⟨_, rfl, b, 5, k + 2 * tc n + 10, rfl, by decide, by decide, B1.same (same_new hl _), fun d2 H2 b1 b2 B2 U2 => ?_⟩
    obtain ⟨g, eg⟩ := sgs_at b1 b2
    have nlb : l ≠ b := fun e => by obtain ⟨ys, hy⟩ := B1.lst; rw [e, hy] at hl; cases hl
    have hl2 : H2 l = some (.lst (sgs.map fun g => V.str g.txt)) := U2 _ _ nlb upd_same
    refine ⟨l, _, _, _, rfl, rfl, SqL.of hl2, eg, ?_⟩
    have U12 : But b H H2 := U1.trans ((But.new hl _).trans U2)
    have ha2 := U12 _ _ nab ha
    have en : ((n + 1 : Nat) : Int) - 1 = (n : Int) := by omega
    refine ⟨_, rfl, _, rfl, _, rfl, _, rfl, _, _, rfl, rfl, b, a, nm, k + tc n, (by show [V.ref b, V.ref a, V.int (((n + 1 : Nat) : Int) - 1)] = _; rw [en]), ha2, nab, hnl, hnm, hn1, B2.less (by omega), fun v1 e1 H3 t1 o1 B3 U3 => ?_⟩
    have ha3 := U3 _ _ nab ha2
    refine ⟨_, rfl, _, rfl, _, rfl, _, _, rfl, rfl, b, a, nm, k, (by show [V.ref b, V.ref a, V.int (((n + 1 : Nat) : Int) - 1)] = _; rw [en]), ha3, nab, hnl, hnm, hn1, B3, fun v2 e2 H4 t2 o2 B4 U4 => ?_⟩
    refine ⟨(by show 3 ≤ sizeLine; decide), fun p hp => ?_⟩
    obtain ⟨ys, hys⟩ := B3.lst
    have t1' : TrIn H4 e1 v1 := t1.but hys U4
    refine q (.ref p) (.op g e1 e2) _ ⟨p, v1, v2, rfl, upd_same, t1'.same (same_new hp _), t2.same (same_new hp _)⟩ ⟨o1, o2⟩ (B4.same (same_new hp _)) (U12.trans (U3.trans (U4.trans (But.new hp _))))
  all_goals
    refine ⟨fun σ' H' => σ' = [some (.ref b), some (.ref a), some (.int ((n + 1 : Nat) : Int)), some (.int d1), none] ∧ Bag H' b (k + 8) ∧ But b H H', ?_, ?_⟩
    · refine ⟨_, rfl, Nat.zero_le _, fun l hl => ?_⟩
      have sl := same_new hl (.lst [])
      refine ⟨.list (nm.map PyData.str), .list [], .lst (SqL.of (sl _ _ ha1)) (dp_strs nm), .lst (SqL.of upd_same) .nil, shaped_strs hnm, rfl, _, rfl, ?_⟩
      cases hnm' : nm with
      | nil => exact ⟨rfl, (B1.same sl).less (by omega), U1.trans (But.of sl)⟩
      | cons z r =>
        have el : (nm.length : Int) = (z :: r).length := by rw [hnm']
        refine ⟨_, rfl, b, 3, k + 2 * tc n + 10, rfl, by decide, by decide, B1.same sl, fun d2 H2 b1 b2 B2 U2 => ?_⟩
        have U12 : But b H H2 := U1.trans ((But.of sl).trans U2)
        have ha2 : H2 a = some (.lst (nm.map V.str)) := U12 _ _ nab ha
        refine ⟨_, _, rfl, rfl, _, rfl, ?_⟩
        refine ite2 (fun c3 => ?_) (fun c3 => ?_)
        · refine ⟨_, rfl, _, rfl, _, rfl, a, _, rfl, .inl (SqL.of ha2), b, _, k + 2 * tc n + 9, rfl, ?_, ?_, B2, fun d3 H3 e1 e2 B3 U3 => ?_⟩
          · rw [List.length_map, el, List.length_cons]; omega
          · rw [List.length_map]; omega
          · rw [List.length_map] at e2
            obtain ⟨x, ex, hx⟩ := menuS (ns := nm) e1 e2
            refine ⟨a, _, _, _, rfl, rfl, SqL.of (U3 _ _ nab ha2), ex, (by show 2 ≤ sizeLine; decide), fun p hp => ?_⟩
            exact q (.ref p) (.nam x) _ (trNam upd_same) hx ((B3.same (same_new hp _)).less (by omega)) (U12.trans (U3.trans (But.new hp _)))
        · exact ⟨rfl, B2.less (by omega), U12⟩
    · rintro σ' H2 ⟨rfl, B2, U2⟩
      refine ⟨_, rfl, b, k, rfl, B2, fun i H3 i0 i1 B3 U3 => ?_⟩
      refine ⟨(by show 2 ≤ sizeLine; decide), fun p hp => ?_⟩
      exact q (.ref p) (.num i) _ (trNum upd_same) ⟨i0, i1⟩ (B3.same (same_new hp _)) (U2.trans (U3.trans (But.new hp _)))
theorem tree_none {f : Addr} {fd : FuncData} : FnOk P w K mg base CX0 2 f fd ["_law_bag_here", "_law_names_here", "_law_deep"] (spTree 0) := by
  have no : ∀ vs H Q E, ¬ spTree 0 vs H Q E := fun vs H Q E h => by
    obtain ⟨_, _, _, _, _, _, _, _, _, h1, _⟩ := h
    omega
  exact ⟨fun vs H Q E h => absurd h (no vs H Q E), fun A outer s H args us vs Q E _ _ _ _ h => absurd h (no vs H Q E)⟩
theorem trees {f t u : Addr} {fd td ud : FuncData} (F : Fun K "_law_tree" "_law_tree" sTree f fd) (m : mg "_law_tree" = some (.ref f)) (bd : Binds K fd ["_law_bag_here", "_law_names_here", "_law_deep"] []) (TK : Fk P w K mg base 1 "_law_take" t td ["_law_bag_here", "_law_many"] spTake)
    (NB : Fk P w K mg base 2 "_law_number" u ud ["_law_bag_here"] spNumber) (T : Bi mg) : ∀ n : Nat, FnOk P w K mg base CX0 (n + 2) f fd ["_law_bag_here", "_law_names_here", "_law_deep"] (spTree n)
  | 0 => tree_none
  | n + 1 => ok_tree F TK NB ⟨trees F m bd TK NB T n, m, F.kp, bd⟩ T
theorem trees_all {f t u : Addr} {fd td ud : FuncData} (F : Fun K "_law_tree" "_law_tree" sTree f fd) (m : mg "_law_tree" = some (.ref f)) (bd : Binds K fd ["_law_bag_here", "_law_names_here", "_law_deep"] []) (TK : Fk P w K mg base 1 "_law_take" t td ["_law_bag_here", "_law_many"] spTake)
    (NB : Fk P w K mg base 2 "_law_number" u ud ["_law_bag_here"] spNumber) (T : Bi mg) (N : Nat) : FnOk P w K mg base CX0 (N + 2) f fd ["_law_bag_here", "_law_names_here", "_law_deep"] (spTrees N) := by
  refine ⟨fun vs H Q E h => ?_, fun A outer s H args us vs Q E hr he hb hv h => ?_⟩
  · obtain ⟨n, hn, h⟩ := h
    exact (trees (P := P) (w := w) (base := base) F m bd TK NB T n).len vs H Q E h
  · obtain ⟨n, hn, h⟩ := h
    exact (trees (P := P) (w := w) (base := base) F m bd TK NB T n).run A outer s H args us vs Q E (hr.mono (by omega)) he hb hv h
end
end SH

set_option Elab.async false
set_option linter.all false
set_option maxRecDepth 100000
/-! Expressions read by a pile: mathematics. -/
namespace SH
open PySem L2
inductive Tn where
  | lp | rp
  | sg (g : Sg)
  | num (n : Int)
  | nam (s : Str)
def brT (b : Bool) (t : List Tn) : List Tn := if b = true then Tn.lp :: (t ++ [Tn.rp]) else t
def Ex.tks : Ex → List Tn
  | .num n => [.num n]
  | .nam s => [.nam s]
  | .op g l r => brT (lB g l) l.tks ++ Tn.sg g :: brT (rB g r) r.tks
def Ex.dep : Ex → Nat
  | .num _ => 1
  | .nam _ => 1
  | .op _ l r => 1 + max l.dep r.dep
def one? (b : Bool) : Nat := if b = true then 1 else 0
/-- how many pairs of brackets are wanted -/
def Ex.nb : Ex → Nat
  | .num _ => 0
  | .nam _ => 0
  | .op g l r => (l.nb + one? (lB g l)) + (r.nb + one? (rB g r))
def isLp : Tn → Bool
  | .lp => true
  | _ => false
def isRp : Tn → Bool
  | .rp => true
  | _ => false
def lps (ts : List Tn) : Nat := (ts.filter isLp).length
theorem lps_app (a b : List Tn) : lps (a ++ b) = lps a + lps b := by unfold lps; rw [List.filter_append, List.length_append]
theorem lps_br (b : Bool) (t : List Tn) : lps (brT b t) = lps t + one? b := by
  cases b with
  | false => rfl
  | true =>
    show lps ([Tn.lp] ++ (t ++ [Tn.rp])) = _
    rw [lps_app, lps_app]
    show 1 + (lps t + 0) = lps t + 1
    omega
theorem Ex.lps : ∀ e : Ex, lps e.tks = e.nb
  | .num _ => rfl
  | .nam _ => rfl
  | .op g l r => by
    show SH.lps (brT (lB g l) l.tks ++ ([Tn.sg g] ++ brT (rB g r) r.tks)) = _
    rw [lps_app, lps_app, lps_br, lps_br, Ex.lps l, Ex.lps r]
    show _ + (0 + _) = (l.nb + _) + (r.nb + _)
    omega
abbrev Ot := Ex × Nat
abbrev Pile := List (Option Sg)
def mk2 (g : Sg) (a o : Ot) : Ot := (.op g a.1 o.1, 1 + max a.2 o.2)
/-- all signs behind the last bracket folded -/
def closeM : Pile → List Ot → Option (List Ot × Pile)
  | none :: p, outs => some (outs, p)
  | some g :: p, o :: a :: r => if (mk2 g a o).2 < 7 then closeM p (mk2 g a o :: r) else none
  | _, _ => none
/-- what binds as much or more, folded -/
def signM (g : Sg) : Pile → List Ot → Option (List Ot × Pile)
  | none :: p, outs => some (outs, none :: p)
  | some h :: p, outs => if g.lv ≤ h.lv then (if g.lv = 1 ∧ h.lv = 1 then none else match outs with
      | o :: a :: r => if (mk2 h a o).2 < 7 then signM g p (mk2 h a o :: r) else none
      | _ => none) else some (outs, some h :: p)
  | [], _ => none
structure RS where
  outs : List Ot
  pile : Pile
  w : Bool
def cntN (p : Pile) : Nat := (p.filter Option.isNone).length
def stepM (S : RS) : Tn → Option RS
  | t => match S.pile, S.w, t with
    | [], _, _ => none
    | p, true, .lp => if cntN p < 9 then some ⟨S.outs, none :: p, true⟩ else none
    | p, true, .num n => some ⟨(.num n, 1) :: S.outs, p, false⟩
    | p, true, .nam n => some ⟨(.nam n, 1) :: S.outs, p, false⟩
    | p, false, .sg g => (signM g p S.outs).map fun x => ⟨x.1, some g :: x.2, true⟩
    | p, false, .rp => (closeM p S.outs).map fun x => ⟨x.1, x.2, false⟩
    | _, _, _ => none
def readM : RS → List Tn → Option RS
  | S, [] => some S
  | S, t :: r => match stepM S t with
    | some S' => readM S' r
    | none => none
def RS0 : RS := ⟨[], [none], true⟩
def resM (ts : List Tn) : Option Ex := match readM RS0 (ts ++ [.rp]) with
  | some ⟨o :: _, [], _⟩ => some o.1
  | _ => none
/-! what binds: levels -/
theorem Sg.lv_pos (g : Sg) : 1 ≤ g.lv ∧ g.lv ≤ 3 := by cases g <;> decide
theorem Ex.lv_pos (e : Ex) : 1 ≤ e.lv ∧ e.lv ≤ 4 := by
  cases e with
  | num _ => show (1 : Int) ≤ 4 ∧ (4 : Int) ≤ 4; decide
  | nam _ => show (1 : Int) ≤ 4 ∧ (4 : Int) ≤ 4; decide
  | op g l r => have := g.lv_pos; show 1 ≤ g.lv ∧ g.lv ≤ 4; omega
theorem Ex.dep_pos (e : Ex) : 1 ≤ e.dep := by
  cases e with
  | num _ => exact Nat.le_refl 1
  | nam _ => exact Nat.le_refl 1
  | op g l r => show 1 ≤ 1 + max l.dep r.dep; omega
def tb : Pile → Int
  | some g :: _ => g.lv
  | _ => 0
theorem lB_f {g : Sg} {l : Ex} (h : lB g l = false) : g.lv ≤ l.lv ∧ l.lv ≠ 1 := by
  unfold lB at h
  rw [Bool.or_eq_false_iff] at h
  have h1 := of_decide_eq_false h.1
  have h2 := of_decide_eq_false h.2
  exact ⟨by omega, h2⟩
theorem rB_f {g : Sg} {l : Ex} (h : rB g l = false) : g.lv < l.lv := by
  unfold rB at h
  have h1 := of_decide_eq_false h
  omega
theorem lB_t {g : Sg} {l : Ex} (h : lB g l = true) : l.lv < g.lv ∨ l.lv = 1 := by
  unfold lB at h
  rw [Bool.or_eq_true] at h
  exact h.elim (fun h => .inl (of_decide_eq_true h)) (fun h => .inr (of_decide_eq_true h))
theorem rB_t {g : Sg} {l : Ex} (h : rB g l = true) : l.lv ≤ g.lv := of_decide_eq_true h
/-! ### the shown parts are read -/
def okNx (lv : Int) (t : Tn) : Prop := t = .rp ∨ ∃ g, t = .sg g ∧ g.lv ≤ lv ∧ lv ≠ 1
theorem readM_cons {S S' : RS} {t : Tn} {r : List Tn} (h : stepM S t = some S') : readM S (t :: r) = readM S' r := by
  show (match stepM S t with | some S' => readM S' r | none => none) = _
  rw [h]
theorem readM_eq {S S' : RS} {t : Tn} {r : List Tn} (h : stepM S t = stepM S' t) : readM S (t :: r) = readM S' (t :: r) := by
  show (match stepM S t with | some S' => readM S' r | none => none) = (match stepM S' t with | some S' => readM S' r | none => none)
  rw [h]
theorem sign_low {g : Sg} {p : Pile} (hp : p ≠ []) (h : tb p < g.lv) (outs : List Ot) : signM g p outs = some (outs, p) := by
  cases p with
  | nil => exact absurd rfl hp
  | cons x p =>
    cases x with
    | none => rfl
    | some k =>
      have h' : k.lv < g.lv := h
      show (if g.lv ≤ k.lv then _ else _) = _
      rw [if_neg (by omega)]
theorem step_lp {outs : List Ot} {p : Pile} (hp : p ≠ []) (h : cntN p < 9) : stepM ⟨outs, p, true⟩ .lp = some ⟨outs, none :: p, true⟩ := by
  cases p with
  | nil => exact absurd rfl hp
  | cons x p => show (if cntN (x :: p) < 9 then _ else _) = _; rw [if_pos h]
theorem step_sg {outs : List Ot} {p : Pile} {g : Sg} (hp : p ≠ []) : stepM ⟨outs, p, false⟩ (.sg g) = (signM g p outs).map fun x => ⟨x.1, some g :: x.2, true⟩ := by
  cases p with
  | nil => exact absurd rfl hp
  | cons x p => rfl
theorem step_rp {outs : List Ot} {p : Pile} (hp : p ≠ []) : stepM ⟨outs, p, false⟩ .rp = (closeM p outs).map fun x => ⟨x.1, x.2, false⟩ := by
  cases p with
  | nil => exact absurd rfl hp
  | cons x p => rfl
theorem read_ex : ∀ (e : Ex) (outs : List Ot) (p : Pile) (t : Tn) (r : List Tn), p ≠ [] → tb p < e.lv → cntN p + e.dep ≤ 9 → e.dep ≤ 6 → okNx e.lv t →
    readM ⟨outs, p, true⟩ (e.tks ++ t :: r) = readM ⟨(e, e.dep) :: outs, p, false⟩ (t :: r)
  | .num n, outs, p, t, r, hp, _, _, _, _ => by
    refine readM_cons ?_
    cases p with
    | nil => exact absurd rfl hp
    | cons x p => rfl
  | .nam n, outs, p, t, r, hp, _, _, _, _ => by
    refine readM_cons ?_
    cases p with
    | nil => exact absurd rfl hp
    | cons x p => rfl
  | .op g a b, outs, p, t, r, hp, hb, hc, hd, hn => by
    have hd' : 1 + max a.dep b.dep ≤ 6 := hd
    have hc' : cntN p + (1 + max a.dep b.dep) ≤ 9 := hc
    have hb' : tb p < g.lv := hb
    have gl := g.lv_pos
    have wrap : ∀ (e : Ex) (outs : List Ot) (q : Pile) (t : Tn) (r : List Tn), q ≠ [] → cntN q + (1 + e.dep) ≤ 9 →
        (∀ (outs : List Ot) (p : Pile) (t : Tn) (r : List Tn), p ≠ [] → tb p < e.lv → cntN p + e.dep ≤ 9 → okNx e.lv t → readM ⟨outs, p, true⟩ (e.tks ++ t :: r) = readM ⟨(e, e.dep) :: outs, p, false⟩ (t :: r)) →
        readM ⟨outs, q, true⟩ (Tn.lp :: (e.tks ++ [Tn.rp]) ++ t :: r) = readM ⟨(e, e.dep) :: outs, q, false⟩ (t :: r) := by
      intro e outs q t r hq hcq ih
      rw [List.cons_append, List.append_assoc]
      rw [readM_cons (step_lp hq (by have := e.dep_pos; omega))]
      show readM _ (e.tks ++ Tn.rp :: (t :: r)) = _
      rw [ih outs (none :: q) .rp (t :: r) (by intro h; cases h) (by have := e.lv_pos; show (0 : Int) < _; omega) (by show cntN (none :: q) + _ ≤ 9; have : cntN (none :: q) = cntN q + 1 := rfl; omega) (.inl rfl)]
      exact readM_cons (by rw [step_rp (by intro h; cases h)]; rfl)
    show readM _ ((brT (lB g a) a.tks ++ Tn.sg g :: brT (rB g b) b.tks) ++ t :: r) = _
    rw [List.append_assoc, List.cons_append]
    have s1 : readM ⟨outs, p, true⟩ (brT (lB g a) a.tks ++ Tn.sg g :: (brT (rB g b) b.tks ++ t :: r)) = readM ⟨(a, a.dep) :: outs, p, false⟩ (Tn.sg g :: (brT (rB g b) b.tks ++ t :: r)) := by
      cases hl : lB g a with
      | true => exact wrap a outs p _ _ hp (by omega) fun outs p t r h1 h2 h3 h4 => read_ex a outs p t r h1 h2 h3 (by omega) h4
      | false =>
        obtain ⟨l1, l2⟩ := lB_f hl
        exact read_ex a outs p _ _ hp (by omega) (by omega) (by omega) (.inr ⟨g, rfl, l1, l2⟩)
    rw [s1, readM_cons (S' := ⟨(a, a.dep) :: outs, some g :: p, true⟩) (by rw [step_sg hp, sign_low hp hb']; rfl)]
    have s2 : readM ⟨(a, a.dep) :: outs, some g :: p, true⟩ (brT (rB g b) b.tks ++ t :: r) = readM ⟨(b, b.dep) :: (a, a.dep) :: outs, some g :: p, false⟩ (t :: r) := by
      have hcg : cntN (some g :: p) = cntN p := rfl
      cases hr : rB g b with
      | true => exact wrap b _ _ _ _ (by intro h; cases h) (by omega) fun outs p t r h1 h2 h3 h4 => read_ex b outs p t r h1 h2 h3 (by omega) h4
      | false =>
        have l1 := rB_f hr
        refine read_ex b _ _ _ _ (by intro h; cases h) l1 (by omega) (by omega) ?_
        rcases hn with h | ⟨k, h, k1, k2⟩
        · exact .inl h
        · have k1' : k.lv ≤ g.lv := k1
          exact .inr ⟨k, h, by omega, by omega⟩
    rw [s2]
    refine readM_eq ?_
    have hdd : (mk2 g (a, a.dep) (b, b.dep)).2 < 7 := by show 1 + max a.dep b.dep < 7; omega
    rcases hn with rfl | ⟨k, rfl, k1, k2⟩
    · rw [step_rp (by intro h; cases h), step_rp hp]
      show Option.map _ (if (mk2 g (a, a.dep) (b, b.dep)).2 < 7 then _ else _) = _
      rw [if_pos hdd]
      rfl
    · have k1' : k.lv ≤ g.lv := k1
      have k2' : g.lv ≠ 1 := k2
      rw [step_sg (by intro h; cases h), step_sg hp]
      show Option.map _ (if k.lv ≤ g.lv then (if k.lv = 1 ∧ g.lv = 1 then none else (if (mk2 g (a, a.dep) (b, b.dep)).2 < 7 then _ else _)) else _) = _
      rw [if_pos k1', if_neg (by omega), if_pos hdd]
      rfl
theorem res_ex {e : Ex} (h : e.dep ≤ 6) : resM e.tks = some e := by
  have q := read_ex e [] [none] .rp [] (by intro h; cases h) (by have := e.lv_pos; show (0 : Int) < _; omega) (by show 1 + e.dep ≤ 9; omega) h (.inl rfl)
  unfold resM RS0
  rw [q]
  rfl
/-! ### no reading saves a bracket -/
def Stg (s : Int) (o : Ex) (k : Nat) : Prop := o.nb + (if o.lv < s then 1 else 0) ≤ k
def sL (g : Sg) : Int := if g.lv < 2 then 2 else g.lv
inductive Wi : List Ot → Pile → Nat → Prop
  | nil : Wi [] [] 0
  | lp {outs p c} : Wi outs p c → Wi outs (none :: p) (c + 1)
  | sg {outs p c k} {o : Ot} {g : Sg} : Wi outs p c → p ≠ [] → tb p < g.lv → Stg (sL g) o.1 k → Wi (o :: outs) (some g :: p) (c + k)
def Ni (outs : List Ot) (p : Pile) (c : Nat) : Prop := ∃ o os k d, outs = o :: os ∧ Wi os p d ∧ Stg 4 o.1 k ∧ c = d + k
def SI (S : RS) (c : Nat) : Prop := if S.w = true then Wi S.outs S.pile c ∧ S.pile ≠ [] else Ni S.outs S.pile c
theorem Stg.low {s t : Int} {o : Ex} {k : Nat} (h : Stg s o k) (hs : t ≤ s) : Stg t o k := by
  unfold Stg at *
  by_cases h1 : o.lv < t
  · rw [if_pos h1]; rw [if_pos (by omega)] at h; exact h
  · rw [if_neg h1]
    split at h <;> omega
theorem Stg.four {s : Int} {o : Ex} {k : Nat} (h : Stg 4 o k) (hs : s ≤ 4) : Stg s o k := h.low hs
theorem fold_nb {g : Sg} {a o : Ex} {ka k : Nat} (ha : Stg (sL g) a ka) (ho : Stg (g.lv + 1) o k) : (Ex.op g a o).nb ≤ ka + k := by
  show (a.nb + one? (lB g a)) + (o.nb + one? (rB g o)) ≤ _
  have h1 : a.nb + one? (lB g a) ≤ ka := by
    unfold Stg at ha
    cases hl : lB g a with
    | false => show a.nb + 0 ≤ ka; split at ha <;> omega
    | true =>
      have q := lB_t hl
      have := g.lv_pos
      rw [if_pos (by unfold sL; split <;> omega)] at ha
      exact ha
  have h2 : o.nb + one? (rB g o) ≤ k := by
    unfold Stg at ho
    cases hl : rB g o with
    | false => show o.nb + 0 ≤ k; split at ho <;> omega
    | true =>
      have q := rB_t hl
      rw [if_pos (by omega)] at ho
      exact ho
  omega
theorem tb_le (p : Pile) : 0 ≤ tb p ∧ tb p ≤ 3 := by
  cases p with
  | nil => show (0 : Int) ≤ 0 ∧ (0 : Int) ≤ 3; decide
  | cons x p =>
    cases x with
    | none => show (0 : Int) ≤ 0 ∧ (0 : Int) ≤ 3; decide
    | some g => have := g.lv_pos; show 0 ≤ g.lv ∧ g.lv ≤ 3; omega
theorem close_ok : ∀ (p : Pile) (o : Ot) (os : List Ot) (k d : Nat), Wi os p d → Stg (tb p + 1) o.1 k → ∀ x, closeM p (o :: os) = some x → Ni x.1 x.2 (d + k)
  | [], o, os, k, d, _, _, x, h => by cases h
  | none :: p, o, os, k, d, hW, hS, x, h => by
    cases h
    cases hW with
    | lp hW =>
      refine ⟨o, os, k + 1, _, rfl, hW, ?_, by omega⟩
      unfold Stg at hS ⊢
      split at hS <;> split <;> omega
  | some g :: p, o, os, k, d, hW, hS, x, h => by
    cases hW with
    | @sg outs _ c ka a _ hW hp hb ha =>
      have h' : (if (mk2 g a o).2 < 7 then closeM p (mk2 g a o :: outs) else none) = some x := h
      split at h'
      · have q := fold_nb ha hS
        have := close_ok p (mk2 g a o) outs (ka + k) c hW (by
          unfold Stg
          show (Ex.op g a.1 o.1).nb + (if g.lv < _ then 1 else 0) ≤ _
          rw [if_neg (by omega)]
          exact q) x h'
        rw [show c + ka + k = c + (ka + k) by omega]
        exact this
      · cases h'
theorem sign_ok (g : Sg) : ∀ (p : Pile) (o : Ot) (os : List Ot) (k d : Nat), Wi os p d → Stg (tb p + 1) o.1 k → Stg (sL g) o.1 k → ∀ x, signM g p (o :: os) = some x → Wi x.1 (some g :: x.2) (d + k)
  | [], o, os, k, d, _, _, _, x, h => by cases h
  | none :: p, o, os, k, d, hW, hS, hL, x, h => by
    cases h
    exact .sg hW (by intro h; cases h) (by have := g.lv_pos; show (0 : Int) < _; omega) hL
  | some e :: p, o, os, k, d, hW, hS, hL, x, h => by
    by_cases h1 : g.lv ≤ e.lv
    · cases hW with
      | @sg outs _ c ka a _ hW hp hb ha =>
        have h' : (if g.lv ≤ e.lv then (if g.lv = 1 ∧ e.lv = 1 then none else (if (mk2 e a o).2 < 7 then signM g p (mk2 e a o :: outs) else none)) else some (o :: a :: outs, some e :: p)) = some x := h
        rw [if_pos h1] at h'
        split at h'
        · cases h'
        · rename_i h2
          split at h'
          · have q := fold_nb ha hS
            have e1 := e.lv_pos
            have g1 := g.lv_pos
            have := sign_ok g p (mk2 e a o) outs (ka + k) c hW (by
              unfold Stg
              show (Ex.op e a.1 o.1).nb + (if e.lv < _ then 1 else 0) ≤ _
              rw [if_neg (by omega)]
              exact q) (by
              unfold Stg
              show (Ex.op e a.1 o.1).nb + (if e.lv < _ then 1 else 0) ≤ _
              rw [if_neg (by unfold sL; split <;> omega)]
              exact q) x h'
            rw [show c + ka + k = c + (ka + k) by omega]
            exact this
          · cases h'
    · have h' : (if g.lv ≤ e.lv then _ else some (o :: os, some e :: p)) = some x := h
      rw [if_neg h1] at h'
      cases h'
      exact .sg hW (by intro h; cases h) (by show e.lv < _; omega) hL
theorem sL_le (g : Sg) : sL g ≤ 4 := by have := g.lv_pos; unfold sL; split <;> omega
theorem step_ok {S S' : RS} {c : Nat} {t : Tn} (h : SI S c) (e : stepM S t = some S') : SI S' (c + one? (isLp t)) := by
  obtain ⟨outs, p, w⟩ := S
  cases p with
  | nil => cases e
  | cons x p =>
    cases w with
    | true =>
      obtain ⟨hW, hp⟩ : Wi outs (x :: p) c ∧ x :: p ≠ [] := h
      cases t with
      | lp =>
        have e' : (if cntN (x :: p) < 9 then some (RS.mk outs (none :: x :: p) true) else none) = some S' := e
        split at e'
        · cases e'
          exact ⟨.lp hW, by intro h; cases h⟩
        · cases e'
      | rp => cases e
      | sg g => cases e
      | num n =>
        cases e
        exact ⟨_, _, 0, c, rfl, hW, by unfold Stg; exact Nat.le_refl 0, rfl⟩
      | nam n =>
        cases e
        exact ⟨_, _, 0, c, rfl, hW, by unfold Stg; exact Nat.le_refl 0, rfl⟩
    | false =>
      obtain ⟨o, os, k, d, eo, hW, hS, ec⟩ : Ni outs (x :: p) c := h
      have eo' : outs = o :: os := eo
      subst eo'
      have hb := tb_le (x :: p)
      cases t with
      | lp => cases x <;> cases e
      | num n => cases x <;> cases e
      | nam n => cases x <;> cases e
      | sg g =>
        rw [step_sg (by intro h; cases h)] at e
        cases hs : signM g (x :: p) (o :: os) with
        | none => rw [hs] at e; cases e
        | some y =>
          rw [hs] at e
          cases e
          have := sign_ok g _ o os k d hW (hS.four (by omega)) (hS.four (sL_le g)) y hs
          rw [ec]
          exact ⟨this, by intro h; cases h⟩
      | rp =>
        rw [step_rp (by intro h; cases h)] at e
        cases hs : closeM (x :: p) (o :: os) with
        | none => rw [hs] at e; cases e
        | some y =>
          rw [hs] at e
          cases e
          have := close_ok _ o os k d hW (hS.four (by omega)) y hs
          rw [ec]
          exact this
theorem read_ok : ∀ (ts : List Tn) (S S' : RS) (c : Nat), SI S c → readM S ts = some S' → SI S' (c + lps ts)
  | [], S, S', c, h, e => by cases e; exact h
  | t :: r, S, S', c, h, e => by
    have e' : (match stepM S t with | some S' => readM S' r | none => none) = some S' := e
    cases hs : stepM S t with
    | none => rw [hs] at e'; cases e'
    | some S1 =>
      rw [hs] at e'
      have := read_ok r S1 S' _ (step_ok h hs) e'
      rw [show lps (t :: r) = one? (isLp t) + lps r by
        rw [show t :: r = [t] ++ r from rfl, lps_app]
        cases t <;> rfl]
      rw [← Nat.add_assoc]
      exact this
theorem SI0 : SI RS0 1 := ⟨.lp .nil, by intro h; cases h⟩
theorem res_nb {ts : List Tn} {e : Ex} (h : resM ts = some e) : e.nb ≤ lps ts := by
  unfold resM at h
  split at h
  · rename_i o os w hr
    cases h
    have q := read_ok _ _ _ _ SI0 hr
    rw [lps_app] at q
    cases w with
    | true => exact absurd rfl q.2
    | false =>
      obtain ⟨o', os', k, d, e1, hW, hS, e2⟩ : Ni _ _ _ := q
      cases e1
      cases hW
      have e3 : lps [Tn.rp] = 0 := rfl
      unfold Stg at hS
      split at hS
      · omega
      · rename_i h4
        obtain ⟨oe, od⟩ := o
        cases oe with
        | num n => exact Nat.zero_le _
        | nam n => exact Nat.zero_le _
        | op g l r => have := g.lv_pos; have h5 : ¬ g.lv < 4 := h4; omega
  · cases h
end SH

set_option Elab.async false
set_option linter.all false
set_option maxRecDepth 100000
/-! Parts of an expression's text: mathematics. -/
namespace SH
open PySem L2 TL
def cd (s : Str) : List Nat := s.cps.toList
theorem cd_len (s : Str) : (cd s).length = s.length := Array.length_toList
theorem cd_app (a b : Str) : cd (a ++ b) = cd a ++ cd b := by
  show (a.cps ++ b.cps).toList = _
  rw [Array.toList_append]
  all_goals rfl
theorem cd_inj {a b : Str} (h : cd a = cd b) : a = b := by
  cases a with | mk x =>
  cases b with | mk y =>
  have : x = y := Array.toList_inj.mp h
  rw [this]
def uno (c : Nat) : Str := ⟨#[c]⟩
theorem cd_uno (c : Nat) : cd (uno c) = [c] := rfl
abbrev Pc := Option Tn
def Tn.txt : Tn → Str
  | .lp => "("
  | .rp => ")"
  | .sg g => g.txt
  | .num n => (toString n : String)
  | .nam s => s
def ptxt : Pc → Str
  | none => " "
  | some t => t.txt
def Tn.kd : Tn → Int
  | .sg .eq => 2
  | .num _ => 1
  | .nam _ => 0
  | _ => 3
def pkd : Pc → Int
  | none => 4
  | some t => t.kd
def nmL (s : Str) : Prop := 1 ≤ (cd s).length ∧ (cd s).length ≤ 8 ∧ ∀ c ∈ cd s, 97 ≤ c ∧ c ≤ 122
def POk : Pc → Prop
  | some (.num n) => 0 ≤ n ∧ n < 1000000 ^ 5
  | some (.nam s) => nmL s
  | _ => True
def brP (b : Bool) (t : List Pc) : List Pc := if b = true then some .lp :: (t ++ [some .rp]) else t
def Ex.pcs : Ex → List Pc
  | .num n => [some (.num n)]
  | .nam s => [some (.nam s)]
  | .op g l r => brP (lB g l) l.pcs ++ none :: some (.sg g) :: none :: brP (rB g r) r.pcs
def flat (ps : List Pc) : List Nat := (ps.map fun p => cd (ptxt p)).flatten
theorem flat_app (a b : List Pc) : flat (a ++ b) = flat a ++ flat b := by unfold flat; rw [List.map_append, List.flatten_append]
theorem flat_cons (p : Pc) (b : List Pc) : flat (p :: b) = cd (ptxt p) ++ flat b := rfl
theorem cd_lp : cd ("(" : Str) = [40] := by decide +kernel
theorem cd_rp : cd (")" : Str) = [41] := by decide +kernel
theorem cd_bl : cd (" " : Str) = [32] := by decide +kernel
theorem cd_sg (g : Sg) : cd g.txt = match g with | .add => [43] | .sub => [45] | .mul => [42] | .lt => [60] | .eq => [61, 61] := by cases g <;> decide +kernel
theorem flat_br (b : Bool) (ps : List Pc) (t : Str) (h : flat ps = cd t) : flat (brP b ps) = cd (br b t) := by
  cases b with
  | false => exact h
  | true =>
    show flat (some Tn.lp :: (ps ++ [some Tn.rp])) = cd (("(" : Str) ++ t ++ (")" : Str))
    rw [flat_cons, flat_app, h, cd_app, cd_app]
    show cd ("(" : Str) ++ (cd t ++ (cd (")" : Str) ++ [])) = _
    rw [List.append_nil, List.append_assoc]
theorem Ex.flat : ∀ e : Ex, SH.flat e.pcs = cd e.txt
  | .num n => by show cd _ ++ [] = _; rw [List.append_nil]; rfl
  | .nam n => by show cd _ ++ [] = _; rw [List.append_nil]; rfl
  | .op g l r => by
    show SH.flat (brP (lB g l) l.pcs ++ none :: some (.sg g) :: none :: brP (rB g r) r.pcs) = cd (br (lB g l) l.txt ++ (" " : Str) ++ g.txt ++ (" " : Str) ++ br (rB g r) r.txt)
    rw [flat_app, flat_cons, flat_cons, flat_cons, flat_br _ _ _ (Ex.flat l), flat_br _ _ _ (Ex.flat r)]
    rw [cd_app, cd_app, cd_app, cd_app]
    show _ ++ (cd (" " : Str) ++ (cd g.txt ++ (cd (" " : Str) ++ _))) = _
    simp only [List.append_assoc]
def toks (ps : List Pc) : List Tn := ps.filterMap id
theorem toks_app (a b : List Pc) : toks (a ++ b) = toks a ++ toks b := List.filterMap_append
theorem toks_br (b : Bool) {ps : List Pc} {t : List Tn} (h : toks ps = t) : toks (brP b ps) = brT b t := by
  cases b with
  | false => exact h
  | true =>
    show Tn.lp :: toks (ps ++ [some Tn.rp]) = Tn.lp :: (t ++ [Tn.rp])
    rw [toks_app, h]
    rfl
theorem Ex.toks : ∀ e : Ex, SH.toks e.pcs = e.tks
  | .num n => rfl
  | .nam n => rfl
  | .op g l r => by
    show SH.toks (brP (lB g l) l.pcs ++ none :: some (.sg g) :: none :: brP (rB g r) r.pcs) = brT (lB g l) l.tks ++ Tn.sg g :: brT (rB g r) r.tks
    rw [toks_app, toks_br _ (Ex.toks l), ← toks_br _ (Ex.toks r)]
    rfl
/-! ### numbers -/
theorem numL_head : ∀ (n : Nat), 0 < n → ∀ r, numL n ≠ 48 :: r := by
  intro n
  induction n using Nat.strongRecOn with
  | _ n ih =>
    intro hn r h
    by_cases h1 : n < 10
    · rw [numL_lt h1] at h
      have := (List.cons.inj h).1
      omega
    · rw [numL_step (by omega)] at h
      cases hd : numL (n / 10) with
      | nil => exact absurd hd (numL_ne _)
      | cons a t =>
        rw [hd] at h
        have : a = 48 := (List.cons.inj h).1
        subst this
        exact ih (n / 10) (by omega) (by omega) t hd
theorem cd_num {n : Int} (h : 0 ≤ n) : cd ((toString n : String) : Str) = numL n.toNat := by
  have e : n = ((n.toNat : Nat) : Int) := by omega
  have q := tl_num n.toNat
  rw [← e] at q
  exact q
theorem num_len {n : Int} (h : 0 ≤ n) (h1 : n < 1000000 ^ 5) : (numL n.toNat).length ≤ 30 := by
  refine numL_len (by decide) ?_
  have e : (1000000 : Int) ^ 5 = 1000000000000000000000000000000 := by decide
  have e2 : (10 : Nat) ^ 30 = 1000000000000000000000000000000 := by decide
  rw [e] at h1
  rw [e2]
  omega
theorem num_dig (n : Nat) : ∀ c ∈ numL n, 48 ≤ c ∧ c ≤ 57 := fun c hc => numL_digits n c hc
/-! ### kinds -/
def kdC (c : Nat) : Int := if 97 ≤ c ∧ c ≤ 122 then 0 else if 48 ≤ c ∧ c ≤ 57 then 1 else if c = 61 then 2 else if c = 32 then 4 else if c ∈ [40, 41, 44, 43, 45, 42, 60] then 3 else 9
theorem kd_let {c : Nat} (h : 97 ≤ c ∧ c ≤ 122) : kdC c = 0 := by unfold kdC; rw [if_pos h]
theorem kd_dig {c : Nat} (h : 48 ≤ c ∧ c ≤ 57) : kdC c = 1 := by unfold kdC; rw [if_neg (by omega), if_pos h]
theorem pc_kinds {p : Pc} (h : POk p) : ∀ c ∈ cd (ptxt p), kdC c = pkd p := by
  intro c hc
  rcases p with _ | t
  · rw [show cd (ptxt none) = [32] from cd_bl] at hc
    rw [List.mem_singleton.mp hc]; decide
  · cases t with
    | lp => rw [show cd (ptxt (some .lp)) = [40] from cd_lp] at hc; rw [List.mem_singleton.mp hc]; decide
    | rp => rw [show cd (ptxt (some .rp)) = [41] from cd_rp] at hc; rw [List.mem_singleton.mp hc]; decide
    | sg g =>
      rw [show cd (ptxt (some (.sg g))) = _ from cd_sg g] at hc
      cases g with
      | eq => have : c = 61 := by simpa using hc
              rw [this]; decide
      | add => rw [List.mem_singleton.mp hc]; decide
      | sub => rw [List.mem_singleton.mp hc]; decide
      | mul => rw [List.mem_singleton.mp hc]; decide
      | lt => rw [List.mem_singleton.mp hc]; decide
    | num n =>
      rw [show cd (ptxt (some (.num n))) = _ from cd_num h.1] at hc
      exact kd_dig (num_dig _ c hc)
    | nam s => exact kd_let (h.2.2 c hc)
theorem pc_ne {p : Pc} (h : POk p) : cd (ptxt p) ≠ [] := by
  rcases p with _ | t
  · rw [show cd (ptxt none) = [32] from cd_bl]; intro h; cases h
  · cases t with
    | lp => rw [show cd (ptxt (some .lp)) = [40] from cd_lp]; intro h; cases h
    | rp => rw [show cd (ptxt (some .rp)) = [41] from cd_rp]; intro h; cases h
    | sg g => rw [show cd (ptxt (some (.sg g))) = _ from cd_sg g]; cases g <;> (intro h; cases h)
    | num n => rw [show cd (ptxt (some (.num n))) = _ from cd_num h.1]; exact numL_ne _
    | nam s => intro e; have := h.1; rw [show cd s = [] from e] at this; exact absurd this (by decide)
theorem kd_range (t : Tn) : 0 ≤ t.kd ∧ t.kd ≤ 3 := by
  cases t with
  | sg g => cases g <;> decide
  | lp => decide
  | rp => decide
  | num n => show (0 : Int) ≤ 1 ∧ (1 : Int) ≤ 3; decide
  | nam n => show (0 : Int) ≤ 0 ∧ (0 : Int) ≤ 3; decide
theorem pc_clean {p : Pc} (h : POk p) : (p ≠ some .lp → 40 ∉ cd (ptxt p)) ∧ (p ≠ some .rp → 41 ∉ cd (ptxt p)) := by
  rcases p with _ | t
  · rw [show cd (ptxt none) = [32] from cd_bl]; exact ⟨fun _ => by decide, fun _ => by decide⟩
  · cases t with
    | lp => rw [show cd (ptxt (some .lp)) = [40] from cd_lp]; exact ⟨fun h => absurd rfl h, fun _ => by decide⟩
    | rp => rw [show cd (ptxt (some .rp)) = [41] from cd_rp]; exact ⟨fun _ => by decide, fun h => absurd rfl h⟩
    | sg g => rw [show cd (ptxt (some (.sg g))) = _ from cd_sg g]; cases g <;> exact ⟨fun _ => by decide, fun _ => by decide⟩
    | num n =>
      rw [show cd (ptxt (some (.num n))) = _ from cd_num h.1]
      exact ⟨fun _ hc => by have := num_dig _ _ hc; omega, fun _ hc => by have := num_dig _ _ hc; omega⟩
    | nam s => exact ⟨fun _ hc => by have := h.2.2 _ hc; omega, fun _ hc => by have := h.2.2 _ hc; omega⟩
theorem pc_blank {t : Tn} (h : POk (some t)) : 32 ∉ cd t.txt := fun hc => by
  have := pc_kinds h 32 hc
  have h2 := kd_range t
  have e : kdC 32 = 4 := by decide
  rw [e] at this
  have e3 : pkd (some t) = t.kd := rfl
  omega
/-! ### sign by sign -/
def mrg (k : Int) (t : Str) (j : Int) : Prop := k = j ∧ (j < 2 ∨ j = 2 ∧ t.length = 1)
instance (k : Int) (t : Str) (j : Int) : Decidable (mrg k t j) := by unfold mrg; infer_instance
def addC (F : List (Int × Str)) (c : Nat) : List (Int × Str) := match F.getLast? with
  | some x => if mrg x.1 x.2 (kdC c) then F.dropLast ++ [(kdC c, x.2 ++ uno c)] else F ++ [(kdC c, uno c)]
  | none => F ++ [(kdC c, uno c)]
theorem add_on {F : List (Int × Str)} {k : Int} {t : Str} {c : Nat} (h : mrg k t (kdC c)) : addC (F ++ [(k, t)]) c = F ++ [(kdC c, t ++ uno c)] := by
  unfold addC
  rw [List.getLast?_concat]
  show (if mrg k t (kdC c) then _ else _) = _
  rw [if_pos h, List.dropLast_concat]
theorem add_new {F : List (Int × Str)} {c : Nat} (h : ∀ x, F.getLast? = some x → ¬ mrg x.1 x.2 (kdC c)) : addC F c = F ++ [(kdC c, uno c)] := by
  unfold addC
  cases e : F.getLast? with
  | none => rfl
  | some x => show (if mrg x.1 x.2 (kdC c) then _ else _) = _; rw [if_neg (h x e)]
theorem add_run {k : Int} (hk : k < 2) : ∀ (cs : List Nat) (F : List (Int × Str)) (t : Str), (∀ c ∈ cs, kdC c = k) → cs.foldl addC (F ++ [(k, t)]) = F ++ [(k, t ++ ⟨cs.toArray⟩)]
  | [], F, t, _ => by
    show F ++ [(k, t)] = _
    congr 3
  | c :: r, F, t, h => by
    have e := h c List.mem_cons_self
    show r.foldl addC (addC (F ++ [(k, t)]) c) = _
    rw [add_on (by rw [e]; exact ⟨rfl, .inl hk⟩), e, add_run hk r F _ fun x hx => h x (List.mem_cons_of_mem _ hx)]
    congr 3
    exact cd_inj (by
      rw [cd_app, cd_app, cd_app, cd_uno]
      show cd t ++ [c] ++ r = cd t ++ (c :: r)
      rw [List.append_assoc]; rfl)
theorem str_mk (s : Str) : (⟨(cd s).toArray⟩ : Str) = s := cd_inj (by show ((cd s).toArray).toList = _; rw [List.toList_toArray])
theorem add_piece {F : List (Int × Str)} {p : Pc} (hp : POk p) (hs : ∀ x, F.getLast? = some x → x.1 = pkd p → 3 ≤ pkd p) : (cd (ptxt p)).foldl addC F = F ++ [(pkd p, ptxt p)] := by
  have hk := pc_kinds hp
  have hn := pc_ne hp
  have fresh : ∀ c r, cd (ptxt p) = c :: r → addC F c = F ++ [(pkd p, uno c)] := by
    intro c r e
    have ec : kdC c = pkd p := hk c (by rw [e]; exact List.mem_cons_self)
    rw [add_new, ec]
    intro x hx hm
    rw [ec] at hm
    have h3 := hs x hx hm.1
    have := hm.2
    omega
  by_cases h2 : pkd p < 2
  · cases e : cd (ptxt p) with
    | nil => exact absurd e hn
    | cons c r =>
      show r.foldl addC (addC F c) = _
      rw [fresh c r e, add_run h2 r F _ fun x hx => hk x (by rw [e]; exact List.mem_cons_of_mem _ hx)]
      congr 3
      exact cd_inj (by rw [cd_app, cd_uno]; show [c] ++ r = _; rw [e]; rfl)
  · have single : ∀ c, cd (ptxt p) = [c] → (cd (ptxt p)).foldl addC F = F ++ [(pkd p, ptxt p)] := by
      intro c e
      rw [e]
      show addC F c = _
      rw [fresh c [] e, show uno c = ptxt p from cd_inj (by rw [cd_uno, e])]
    rcases p with _ | t
    · exact single 32 cd_bl
    · cases t with
      | lp => exact single 40 cd_lp
      | rp => exact single 41 cd_rp
      | num n => exact absurd (show (1 : Int) < 2 by decide) h2
      | nam n => exact absurd (show (0 : Int) < 2 by decide) h2
      | sg g =>
        cases g with
        | add => exact single 43 (cd_sg .add)
        | sub => exact single 45 (cd_sg .sub)
        | mul => exact single 42 (cd_sg .mul)
        | lt => exact single 60 (cd_sg .lt)
        | eq =>
          have e : cd (ptxt (some (.sg .eq))) = [61, 61] := cd_sg .eq
          rw [e]
          show addC (addC F 61) 61 = _
          rw [fresh 61 [61] e, add_on ⟨by decide, .inr ⟨by decide, rfl⟩⟩]
          show F ++ [(kdC 61, uno 61 ++ uno 61)] = F ++ [(2, _)]
          rw [show kdC 61 = 2 by decide, show uno 61 ++ uno 61 = ptxt (some (.sg .eq)) from cd_inj (by rw [e, cd_app]; rfl)]
def Lse : Bool → List Pc → Prop
  | _, [] => True
  | b, p :: r => if pkd p = 4 then Lse false r else if pkd p = 3 then Lse b r else b = false ∧ Lse true r
theorem fold_pcs : ∀ (ps : List Pc) (F : List (Int × Str)) (b : Bool), Lse b ps → (∀ p ∈ ps, POk p) → (b = false → ∀ x, F.getLast? = some x → 3 ≤ x.1) → (flat ps).foldl addC F = F ++ ps.map fun p => (pkd p, ptxt p)
  | [], F, b, _, _, _ => by show F = F ++ []; rw [List.append_nil]
  | p :: r, F, b, h, ho, hb => by
    rw [flat_cons, List.foldl_append]
    have h' : (if pkd p = 4 then Lse false r else if pkd p = 3 then Lse b r else b = false ∧ Lse true r) := h
    have op := ho p List.mem_cons_self
    have or' : ∀ p ∈ r, POk p := fun q hq => ho q (List.mem_cons_of_mem _ hq)
    have fin : ∀ b', Lse b' r → (3 ≤ pkd p ∨ b' = true) → (∀ x, F.getLast? = some x → x.1 = pkd p → 3 ≤ pkd p) → (flat r).foldl addC ((cd (ptxt p)).foldl addC F) = F ++ (p :: r).map fun p => (pkd p, ptxt p) := by
      intro b' hl hb' hs
      rw [add_piece op hs, fold_pcs r _ b' hl or' ?_, List.append_assoc]
      · rfl
      · intro e x hx
        rw [List.getLast?_concat] at hx
        cases hx
        rcases hb' with q | q
        · exact q
        · rw [q] at e; cases e
    by_cases k4 : pkd p = 4
    · rw [if_pos k4] at h'
      exact fin false h' (.inl (by omega)) fun _ _ _ => by omega
    · rw [if_neg k4] at h'
      by_cases k3 : pkd p = 3
      · rw [if_pos k3] at h'
        exact fin b h' (.inl (by omega)) fun _ _ _ => by omega
      · rw [if_neg k3] at h'
        obtain ⟨hb0, h1⟩ := h'
        refine fin true h1 (.inr rfl) fun x hx e => ?_
        have := hb hb0 x hx
        omega
theorem Lse_br (b : Bool) {ps rest : List Pc} (h : ∀ rest, Lse true rest → Lse false (ps ++ rest)) (hr : Lse true rest) : Lse false (brP b ps ++ rest) := by
  cases b with
  | false => exact h rest hr
  | true =>
    show Lse false (some Tn.lp :: ((ps ++ [some Tn.rp]) ++ rest))
    rw [List.append_assoc]
    exact h (some Tn.rp :: rest) hr
theorem Ex.lse : ∀ (e : Ex) (rest : List Pc), Lse true rest → Lse false (e.pcs ++ rest)
  | .num n, rest, h => ⟨rfl, h⟩
  | .nam n, rest, h => ⟨rfl, h⟩
  | .op g l r, rest, h => by
    show Lse false ((brP (lB g l) l.pcs ++ none :: some (.sg g) :: none :: brP (rB g r) r.pcs) ++ rest)
    rw [List.append_assoc]
    refine Lse_br _ (fun rest => Ex.lse l rest) ?_
    have q : Lse false (brP (rB g r) r.pcs ++ rest) := Lse_br _ (fun rest => Ex.lse r rest) h
    cases g with
    | eq => exact ⟨rfl, q⟩
    | _ => exact q
theorem Lse_cut {x : Pc} (hx : pkd x = 3) : ∀ (P : List Pc) (b : Bool) (Q : List Pc), Lse b (P ++ x :: Q) → Lse b (P ++ Q)
  | [], b, Q, h => by
    have h' : (if pkd x = 4 then Lse false Q else if pkd x = 3 then Lse b Q else _) := h
    rw [if_neg (by omega), if_pos hx] at h'
    exact h'
  | p :: P, b, Q, h => by
    have h' : (if pkd p = 4 then Lse false (P ++ x :: Q) else if pkd p = 3 then Lse b (P ++ x :: Q) else b = false ∧ Lse true (P ++ x :: Q)) := h
    show (if pkd p = 4 then Lse false (P ++ Q) else if pkd p = 3 then Lse b (P ++ Q) else b = false ∧ Lse true (P ++ Q))
    by_cases k4 : pkd p = 4
    · rw [if_pos k4] at h' ⊢; exact Lse_cut hx P _ Q h'
    · rw [if_neg k4] at h' ⊢
      by_cases k3 : pkd p = 3
      · rw [if_pos k3] at h' ⊢; exact Lse_cut hx P _ Q h'
      · rw [if_neg k3] at h' ⊢; exact ⟨h'.1, Lse_cut hx P _ Q h'.2⟩
/-! ### where a bracket stands -/
theorem past {c : Nat} : ∀ {X Y A B : List Nat}, c ∉ X → X ++ Y = A ++ c :: B → ∃ A', A = X ++ A' ∧ Y = A' ++ c :: B
  | [], Y, A, B, _, h => ⟨A, rfl, h⟩
  | x :: X, Y, [], B, hx, h => absurd (by rw [(List.cons.inj h).1]; exact List.mem_cons_self) hx
  | x :: X, Y, a :: A, B, hx, h => by
    obtain ⟨h1, h2⟩ := List.cons.inj h
    obtain ⟨A', e1, e2⟩ := past (fun q => hx (List.mem_cons_of_mem _ q)) h2
    exact ⟨A', by rw [e1, h1]; rfl, e2⟩
theorem find_pc {c : Nat} {t : Pc} (ht : cd (ptxt t) = [c]) (hc : ∀ p, POk p → p ≠ t → c ∉ cd (ptxt p)) : ∀ (ps : List Pc) (A B : List Nat), (∀ p ∈ ps, POk p) → flat ps = A ++ c :: B → ∃ P Q, ps = P ++ t :: Q ∧ flat P = A ∧ flat Q = B
  | [], A, B, _, h => by
    have h' : [] = A ++ c :: B := h
    cases A <;> cases h'
  | p :: r, A, B, ho, h => by
    rw [flat_cons] at h
    have or' : ∀ p ∈ r, POk p := fun q hq => ho q (List.mem_cons_of_mem _ hq)
    by_cases e : p = t
    · subst e
      rw [ht] at h
      cases A with
      | nil => exact ⟨[], r, rfl, rfl, (List.cons.inj h).2⟩
      | cons a A' =>
        obtain ⟨h1, h2⟩ := List.cons.inj h
        obtain ⟨P, Q, e1, e2, e3⟩ := find_pc ht hc r A' B or' h2
        exact ⟨p :: P, Q, by rw [e1]; rfl, by rw [flat_cons, ht, e2, h1]; rfl, e3⟩
    · obtain ⟨A', e1, e2⟩ := past (hc p (ho p List.mem_cons_self) e) h
      obtain ⟨P, Q, e3, e4, e5⟩ := find_pc ht hc r A' B or' e2
      exact ⟨p :: P, Q, by rw [e3]; rfl, by rw [flat_cons, e4, e1], e5⟩
theorem less_pcs {ps : List Pc} {A M B : List Nat} (ho : ∀ p ∈ ps, POk p) (hl : Lse false ps) (h : flat ps = A ++ 40 :: (M ++ 41 :: B)) :
    ∃ qs, flat qs = A ++ (M ++ B) ∧ (∀ p ∈ qs, POk p) ∧ Lse false qs ∧ lps (toks qs) + 1 = lps (toks ps) ∧ ∀ p ∈ qs, p ∈ ps := by
  obtain ⟨P, Q, e1, e2, e3⟩ := find_pc (t := some .lp) cd_lp (fun p hp => (pc_clean hp).1) ps A _ ho h
  subst e1
  have oQ : ∀ p ∈ Q, POk p := fun q hq => ho q (List.mem_append_right _ (List.mem_cons_of_mem _ hq))
  obtain ⟨R, S, f1, f2, f3⟩ := find_pc (t := some .rp) cd_rp (fun p hp => (pc_clean hp).2) Q M B oQ e3
  subst f1
  refine ⟨P ++ (R ++ S), by rw [flat_app, flat_app, e2, f2, f3], fun p hp => ?_, ?_, ?_, fun p hp => ?_⟩
  · rcases List.mem_append.mp hp with q | q
    · exact ho p (List.mem_append_left _ q)
    · rcases List.mem_append.mp q with q | q
      · exact oQ p (List.mem_append_left _ q)
      · exact oQ p (List.mem_append_right _ (List.mem_cons_of_mem _ q))
  · have h1 := Lse_cut (x := some .lp) rfl P false (R ++ some .rp :: S) hl
    rw [← List.append_assoc] at h1
    have h2 := Lse_cut (x := some .rp) rfl (P ++ R) false S h1
    rw [List.append_assoc] at h2
    exact h2
  · have c1 : ∀ X : List Pc, lps (toks (some Tn.lp :: X)) = 1 + lps (toks X) := fun X => by
      show lps ([Tn.lp] ++ toks X) = _
      rw [lps_app]; rfl
    have c2 : ∀ X : List Pc, lps (toks (some Tn.rp :: X)) = lps (toks X) := fun X => rfl
    rw [toks_app, toks_app, lps_app, lps_app, toks_app, lps_app, c1, toks_app, lps_app, c2]
    omega
  · rcases List.mem_append.mp hp with q | q
    · exact List.mem_append_left _ q
    · refine List.mem_append_right _ (List.mem_cons_of_mem _ ?_)
      rcases List.mem_append.mp q with q | q
      · exact List.mem_append_left _ q
      · exact List.mem_append_right _ (List.mem_cons_of_mem _ q)
/-! ### brackets stand in pairs -/
def bal (cs : List Nat) : Prop := (∀ n, (cs.take n).count 41 ≤ (cs.take n).count 40) ∧ cs.count 41 = cs.count 40
theorem bal_app {a b : List Nat} (ha : bal a) (hb : bal b) : bal (a ++ b) := by
  refine ⟨fun n => ?_, ?_⟩
  · rw [List.take_append, List.count_append, List.count_append]
    have := ha.1 n
    have := hb.1 (n - a.length)
    omega
  · rw [List.count_append, List.count_append, ha.2, hb.2]
theorem bal_clean {a : List Nat} (h1 : 40 ∉ a) (h2 : 41 ∉ a) : bal a := by
  refine ⟨fun n => ?_, ?_⟩
  · rw [List.count_eq_zero.mpr fun h => h2 (List.mem_of_mem_take h)]; exact Nat.zero_le _
  · rw [List.count_eq_zero.mpr h1, List.count_eq_zero.mpr h2]
theorem bal_wrap {a : List Nat} (h : bal a) : bal (40 :: (a ++ [41])) := by
  refine ⟨fun n => ?_, ?_⟩
  · cases n with
    | zero => exact Nat.le_refl _
    | succ n =>
      rw [List.take_succ_cons, List.count_cons, List.count_cons, List.take_append, List.count_append, List.count_append]
      have h1 := h.1 n
      have h2 : (List.take (n - a.length) [41]).count 41 ≤ 1 := Nat.le_trans List.count_le_length (by rw [List.length_take]; exact Nat.min_le_right _ _)
      simp only [beq_self_eq_true, if_true, show ((40 : Nat) == 41) = false from rfl, Bool.false_eq_true, if_false]
      omega
  · rw [List.count_cons, List.count_cons, List.count_append, List.count_append, h.2]
    simp
theorem br_bal (b : Bool) {t : Str} (h : bal (cd t)) : bal (cd (br b t)) := by
  cases b with
  | false => exact h
  | true =>
    show bal (cd (("(" : Str) ++ t ++ (")" : Str)))
    rw [cd_app, cd_app, cd_lp, cd_rp]
    show bal (40 :: (cd t ++ [41]))
    exact bal_wrap h
/-- its names and numbers are in order -/
def Ex.pfit : Ex → Prop
  | .num n => POk (some (.num n))
  | .nam s => POk (some (.nam s))
  | .op _ l r => l.pfit ∧ r.pfit
theorem Ex.bal : ∀ e : Ex, e.pfit → SH.bal (cd e.txt)
  | .num n, h => bal_clean ((pc_clean (p := some (.num n)) h).1 (by intro h; cases h)) ((pc_clean (p := some (.num n)) h).2 (by intro h; cases h))
  | .nam n, h => bal_clean ((pc_clean (p := some (.nam n)) h).1 (by intro h; cases h)) ((pc_clean (p := some (.nam n)) h).2 (by intro h; cases h))
  | .op g l r, h => by
    show SH.bal (cd (br (lB g l) l.txt ++ (" " : Str) ++ g.txt ++ (" " : Str) ++ br (rB g r) r.txt))
    rw [cd_app, cd_app, cd_app, cd_app]
    have b1 : SH.bal (cd (" " : Str)) := by rw [cd_bl]; exact bal_clean (by decide) (by decide)
    have b2 : SH.bal (cd g.txt) := bal_clean ((pc_clean (p := some (.sg g)) trivial).1 (by intro h; cases h)) ((pc_clean (p := some (.sg g)) trivial).2 (by intro h; cases h))
    exact bal_app (bal_app (bal_app (bal_app (br_bal _ (Ex.bal l h.1)) b1) b2) b1) (br_bal _ (Ex.bal r h.2))
theorem br_ok (b : Bool) {ps : List Pc} (h : ∀ p ∈ ps, POk p) : ∀ p ∈ brP b ps, POk p := by
  cases b with
  | false => exact h
  | true =>
    intro p hp
    rcases List.mem_cons.mp (show p ∈ some Tn.lp :: (ps ++ [some Tn.rp]) from hp) with rfl | q
    · trivial
    · rcases List.mem_append.mp q with q | q
      · exact h p q
      · rw [List.mem_singleton.mp q]; trivial
theorem Ex.pok : ∀ e : Ex, e.pfit → ∀ p ∈ e.pcs, POk p
  | .num n, h, p, hp => by rw [List.mem_singleton.mp hp]; exact h
  | .nam n, h, p, hp => by rw [List.mem_singleton.mp hp]; exact h
  | .op g l r, h, p, hp => by
    rcases List.mem_append.mp (show p ∈ brP (lB g l) l.pcs ++ none :: some (.sg g) :: none :: brP (rB g r) r.pcs from hp) with q | q
    · exact br_ok _ (Ex.pok l h.1) p q
    · rcases List.mem_cons.mp q with rfl | q
      · trivial
      · rcases List.mem_cons.mp q with rfl | q
        · trivial
        · rcases List.mem_cons.mp q with rfl | q
          · trivial
          · exact br_ok _ (Ex.pok r h.2) p q
end SH

set_option Elab.async false
set_option linter.all false
set_option maxRecDepth 100000
/-! Sets of unlike texts: set(tuple), {.. for .. in ..}, and how many stand in one. -/
namespace SHSet
open PySem PySem.Spec PyProof.Rows
/-- a set in which just these unlike texts stand -/
def TxtSet (prog : Program) (w : World) (h : Heap) (D : Addr) (xs : List Str) : Prop := h.SetOf (strKind prog w) D (fun y => decide (y ∈ xs)) xs.length
section
variable {prog : Program} {w : World} {A : Around} {D : Addr}
theorem TxtSet.keep {h k : Heap} {xs : List Str} (q : TxtSet prog w h D xs) (m : ∀ o, h.get? D = some o → k.get? D = some o) : TxtSet prog w k D xs := by
  obtain ⟨o, es, ep, tb, ho, rest⟩ := q
  exact ⟨o, es, ep, tb, m _ ho, rest⟩
/-- one more text, if it isn't there -/
def addT (xs : List Str) (y : Str) : List Str := if y ∈ xs then xs else xs ++ [y]
/-- each once -/
def dd (xs : List Str) : List Str := xs.foldl addT []
theorem dd_snoc (xs : List Str) (y : Str) : dd (xs ++ [y]) = addT (dd xs) y := by
  unfold dd
  rw [List.foldl_append]
  rfl
theorem addT_len (xs : List Str) (y : Str) : (addT xs y).length ≤ xs.length + 1 := by
  unfold addT
  split
  · omega
  · rw [List.length_append, List.length_singleton]
    omega
theorem dd_len (n : Nat) : ∀ xs : List Str, xs.length = n → (dd xs).length ≤ n := by
  induction n with
  | zero =>
    intro xs h
    rw [List.eq_nil_of_length_eq_zero h]
    exact Nat.le_refl _
  | succ n ih =>
    intro xs h
    have hne : xs ≠ [] := fun z => by rw [z] at h; cases h
    have e := (List.dropLast_concat_getLast hne).symm
    have hl : xs.dropLast.length = n := by rw [List.length_dropLast, h]; rfl
    have := ih xs.dropLast hl
    have a := addT_len (dd xs.dropLast) (xs.getLast hne)
    rw [e, dd_snoc]
    omega
theorem dd_fold : ∀ (xs acc : List Str), (acc ++ xs).Nodup → xs.foldl addT acc = acc ++ xs
  | [], acc, _ => (List.append_nil acc).symm
  | x :: r, acc, h => by
    have hx : x ∉ acc := fun m => by
      have := List.nodup_append.mp h
      exact this.2.2 x m x List.mem_cons_self rfl
    show r.foldl addT (addT acc x) = acc ++ x :: r
    have e : addT acc x = acc ++ [x] := by unfold addT; rw [if_neg hx]
    have e2 : acc ++ x :: r = (acc ++ [x]) ++ r := by rw [List.append_assoc]; rfl
    rw [e, e2]
    rw [e2] at h
    exact dd_fold r (acc ++ [x]) h
theorem dd_nd {xs : List Str} (h : xs.Nodup) : dd xs = xs := dd_fold xs [] h
theorem TxtSet.one {xs : List Str} {y : Str} {t : Tok} {s : Shared} {E : Value → Shared → Prop} {Q : Bool → Shared → Prop} (q : TxtSet prog w s.heap D xs) (few : xs.length + 1 < scanBound)
    (h : ∀ k, s.heap.SameBut D k → TxtSet prog w k D (addT xs y) → ∀ r, Q r { s with heap := k, toks := s.toks + 1 }) : wpAny (model prog w) A (setAdd D (.str y t)) Q E s := by
  unfold setAdd
  refine wpAny_holding (wpAny_bind ((strKind prog w).pyHash (k := y) (strKind_is prog w y t) ?_))
  refine wpAny_setAddHashed_of (knd := strKind prog w) (s := { s with toks := s.toks + 1 }) (strKind_is prog w y t) rfl q few fun k sb st => h k sb ?_ _
  unfold addT
  by_cases hy : y ∈ xs
  · rw [if_pos hy]
    refine SetOf_congr st (fun z => ?_) (by rw [decide_eq_true hy]; rfl)
    by_cases e : z = y
    · subst e; simp [hy]
    · simp [e]
  · rw [if_neg hy]
    refine SetOf_congr st (fun z => ?_) ?_
    · simp [List.mem_append]
    · rw [if_neg (by rw [decide_eq_false hy]; exact Bool.false_ne_true), List.length_append]
      rfl
end
section
variable {prog : Program} {w : World} {A : Around} {R : Result → Shared → Prop} {J D : Addr} {ft wt : List Addr} {Gs : Array GenState → Array GenState → Prop} {n : Nat} {Pi : Nat → Value → Prop} {Sat : Nat → Shared → Prop}
theorem texts_loop (W : WalksS prog w A.in1 J ft wt Gs n Pi Sat) (out : D ∉ ft) {xs : List Str} (len : xs.length = n) (few : n + 1 < scanBound) (val : ∀ i v, Pi i v → ∃ t, v = .str (xs.getD i Str.empty) t) :
    ∀ (m i : Nat) (s : Shared), i + m = n → Sat i s → TxtSet prog w s.heap D (dd (xs.take i)) → (∀ z, Moved (D :: wt) Gs s z → TxtSet prog w z.heap D (dd xs) → R (.ok (.ret .none)) z) →
      codeAny (model prog w) A (.builtin "set.update.loop" ⟨[.ref D, .ref J], []⟩) R s := by
  have outW : D ∉ wt := fun q => out (W.sub _ q)
  have wide : ∀ b ∈ wt, b ∈ D :: wt := fun b q => List.mem_cons_of_mem _ q
  intro m
  induction m with
  | zero =>
    intro i s him st q fin
    have ei : xs.take i = xs := List.take_of_length_le (by omega)
    rw [ei] at q
    refine codeAny_builtin PyProof.Rows.F.entry_set_update_loop (by
      rw [Around.under_plainId PyProof.Rows.F.plain_set_update_loop _]
      refine (show wpAny _ A.in1 (pyNext (.ref J) >>= _) _ _ s from wpAny_bind (W.done s _ _ (by rw [show n = i by omega]; exact st) fun z mv => ?_))
      exact (show wpAny _ A.in1 (ret Value.none) _ _ z from wpAny_pure (fin z (mv.mono wide) (q.keep fun o ho => mv.heap D o outW ho))))
  | succ m ih =>
    intro i s him st q fin
    have lt : i < xs.length := by omega
    refine codeAny_builtin PyProof.Rows.F.entry_set_update_loop (by
      rw [Around.under_plainId PyProof.Rows.F.plain_set_update_loop _]
      refine (show wpAny _ A.in1 (pyNext (.ref J) >>= _) _ _ s from wpAny_bind (W.item i s _ _ (by omega) st fun v z pv stz mv => ?_))
      obtain ⟨t, rfl⟩ := val i v pv
      have qz : TxtSet prog w z.heap D (dd (xs.take i)) := q.keep fun o ho => mv.heap D o outW ho
      have here : xs.getD i Str.empty = xs[i] := by rw [List.getD_eq_getElem?_getD, List.getElem?_eq_getElem lt]; rfl
      have more : xs.take (i + 1) = xs.take i ++ [xs.getD i Str.empty] := by rw [here, List.take_add_one, List.getElem?_eq_getElem lt]; rfl
      refine (show wpAny _ A.in1 (holding [Value.str (xs.getD i Str.empty) t] (setAdd D (.str (xs.getD i Str.empty) t)) >>= _) _ _ z from wpAny_bind (wpAny_holding ?_))
      refine qz.one (by have := dd_len i (xs.take i) (by rw [List.length_take]; omega); omega) fun k sb qk r => ?_
      rw [← dd_snoc, ← more] at qk
      refine wpAny_pure ⟨plainId_quiet PyProof.Rows.F.plain_set_update_loop _, ih (i + 1) _ (by omega) (W.frame _ z _ _ stz (Nat.le_succ _) fun b hb o e => ?_) qk fun u mu qu => ?_⟩
      · exact (sb.2 b (fun q : b = D => out (q ▸ hb))).trans e
      · refine fin u (Moved.trans W.gtrans ((mv.mono wide).then_heap (Nat.le_succ _) fun b o hb e => ?_) mu) qu
        exact (sb.2 b (fun q : b = D => hb (by rw [q]; exact List.mem_cons_self))).trans e)
end
section
variable {prog : Program} {w : World} {A : Around} {E : Value → Shared → Prop} {s : Shared}
/-- an empty set, just made -/
abbrev bareSet (led : Bool) : Obj := { cls := .type "set", dict := none, data := .set #[] 0 (.fresh 0 0 led) }
theorem txt0 {h : Heap} {D : Addr} {led : Bool} (g : h.get? D = some (bareSet led)) : TxtSet prog w h D [] :=
  SetOf_congr ((setObjOf_fresh (knd := strKind prog w) led).setOf g (by decide)) (fun _ => rfl) rfl
/-- set.__init__ over a tuple of texts -/
theorem init_texts {D l : Addr} {items : Array Value} {xs : List Str} {led : Bool} {Q : Value → Shared → Prop} (quiet : A.handled = none) (hl : s.heap.IsTuple l items) (hx : StrsAre items.toList xs) (few : xs.length + 1 < scanBound) (hD : D < s.heap.objs.size) (hDl : l < D) (g : s.heap.get? D = some (bareSet led))
    (h : ∀ (k : Heap) (tk : Nat), TxtSet prog w k D (dd xs) → (∀ b o, b < D → s.heap.get? b = some o → k.get? b = some o) → Q .none { s with heap := k, toks := tk }) :
    codeAny (model prog w) A (.call (.builtin "set.__init__") ⟨[.ref D, .ref l], []⟩) (wants Q E) s := by
  have ty : s.TypeIs (.ref D) "set" := ⟨_, g, rfl⟩
  refine codeAny_call_builtin PySem.F.called_set.init.plain PySem.F.entry_set_init (check_set_init_1 ty ?_)
  obtain ⟨⟨c1, c2, c3, c4⟩, at_l, k1, k2, k3⟩ := hl
  simp only at k1 k3
  subst k1
  subst k3
  have f1 := PySem.F.sub_tuple_set
  have f2 := PySem.F.sub_tuple_frozenset
  have f3 : (Value.type "tuple" == Value.type "dict") = false := by decide
  have whole : s.heap.IsTuple l items := ⟨_, at_l, rfl, k2, rfl⟩
  unfold Builtin.«set.__init__» noKeywords Builtin.Frozenset.updateFrom
  generalize hit : pyIter = PI
  wp_walk
  subst hit
  refine wpAny_pyIter_tuple whole (wpAny_bind (wpAny_runValue ?_))
  have calm : A.in1.in1.handled = none := by simp [quiet]
  have lJ : l ≠ s.heap.objs.size := Nat.ne_of_lt (Nat.lt_trans hDl hD)
  have hsz : xs.length = items.size := by rw [← StrsAre.len_eq hx, Array.length_toList]
  refine texts_loop (prog := prog) (w := w) (A := A.in1) ((Walks.tuple calm _ l lJ items).toS) (D := D) ?_ hsz (by omega) (fun i v hv => SS.strs_at hx i v (by rw [Array.getElem?_toList]; exact hv)) items.size 0 _ (by omega) ?_ ?_ fun z mv qz => ?_
  · simp only [List.mem_cons, List.mem_singleton, List.not_mem_nil, or_false, not_or]
    exact ⟨Nat.ne_of_lt hD, Nat.ne_of_gt hDl⟩
  · exact ⟨⟨_, Heap.get?_push_size _ rfl, rfl, rfl⟩, whole.push _⟩
  · exact txt0 (led := led) (Heap.get?_push_of_some _ g)
  · obtain ⟨hz, gz, dz, tz, oz⟩ := z
    obtain rfl : gz = s.gens := mv.gens
    obtain rfl : dz = s.drawn := mv.drawn
    obtain rfl : oz = s.os := mv.os
    refine wpAny_pure (wpAny_pure (h hz tz qz fun b o hb e => mv.heap b o ?_ (Heap.get?_push_of_some _ e)))
    simp only [List.mem_cons, List.mem_singleton, List.not_mem_nil, or_false, not_or]
    exact ⟨Nat.ne_of_lt hb, Nat.ne_of_lt (Nat.lt_trans hb hD)⟩
/-- set(tuple of unlike texts) -/
theorem call_texts {l : Addr} {items : Array Value} {xs : List Str} {Q : Value → Shared → Prop} (quiet : A.handled = none) (hl : s.heap.IsTuple l items) (hx : StrsAre items.toList xs) (few : xs.length + 1 < scanBound)
    (h : ∀ (k : Heap) (tk : Nat), TxtSet prog w k s.heap.objs.size (dd xs) → (∀ b o, b < s.heap.objs.size → s.heap.get? b = some o → k.get? b = some o) → Q (.ref s.heap.objs.size) { s with heap := k, toks := tk }) :
    wpAny (model prog w) A (call (.type "set") [.ref l]) Q E s := by
  obtain ⟨c, tl, f1⟩ := PySem.F.called_set.mro
  have f2 := PySem.F.called_set.made
  have f3 := PySem.F.called_set.sub
  refine wpAny_call (codeAny_of_tree (show wpAny _ _ (callAny (.type "set") _) _ _ _ from wpAny_pure ⟨Code.quiet_builtin _ (by decide +kernel), codeAny_builtin PySem.F.entry_type_call ?_⟩))
  rw [Around.under_plain (weight_type_call_type "set" [.ref l] []) rfl]
  have f4 := PySem.F.called_set.notType
  have f5 := PySem.F.called_set.canCreate
  have f6 := PySem.F.typeCall_set_1 (.ref l)
  repeat (any_goals (first | assumption | wp_step))
  refine codeAny_mono (code_set_new_1 (.ref l) (E := E) (Q₁ := fun o z => ∃ led : Bool, o = .ref s.heap.objs.size ∧ z = { s with heap := s.heap.push (bareSet led) }) fun led => ⟨led, rfl, rfl⟩) fun r z hr => ?_
  cases r with
  | error e => exact hr
  | ok fl =>
    cases fl with
    | ret obj =>
      obtain ⟨led, rfl, rfl⟩ := hr
      have g : (s.heap.push (bareSet led)).get? s.heap.objs.size = some (bareSet led) := Heap.get?_push_size _ rfl
      have f7 : Shared.TypeIs { s with heap := s.heap.push (bareSet led) } (.ref s.heap.objs.size) "set" := ⟨_, g, rfl⟩
      have f8 := PySem.F.called_set.init.lookup
      have f9 := PySem.F.called_set.init.bind (.ref s.heap.objs.size)
      repeat (any_goals (first | assumption | wp_step))
      have hlt : l < s.heap.objs.size := by
        obtain ⟨o, ho, _⟩ := hl
        exact Heap.lt_size ho
      refine codeAny_mono (init_texts (prog := prog) (w := w) (E := E) (Q := fun r z => r = .none ∧ ∃ k tk, z = { s with heap := k, toks := tk } ∧ TxtSet prog w k s.heap.objs.size (dd xs) ∧ ∀ b o, b < s.heap.objs.size → s.heap.get? b = some o → k.get? b = some o) (led := led) (by simp [quiet]) (hl.push _) hx few (by rw [Heap.size_push]; exact Nat.lt_succ_self _) hlt g fun k tk q kp => ⟨rfl, k, tk, rfl, q, fun b o hb e => kp b o hb (Heap.get?_push_of_some _ e)⟩) fun r z hr => ?_
      cases r with
      | error e => exact hr
      | ok fl =>
        cases fl with
        | ret r =>
          obtain ⟨rfl, k, tk, rfl, q, kp⟩ := hr
          repeat (any_goals (first | assumption | wp_step))
          exact h k tk q kp
        | _ => exact hr.elim
    | _ => exact hr.elim
end
end SHSet
namespace SH
open PySem PySem.Spec PyProof.Rows L2 SHSet
/-- len(set(t)), t a tuple of texts -/
def tLenTxt (K : PySem.W.Frag) (ta : TE) : TE := fun σ H Q => ta σ H fun x H1 => ∃ (l : Addr) (xs : List Str), x = .ref l ∧ SqT K H1 l (xs.map V.str) ∧ xs.length ≤ 1000 ∧ Q (.int ((dd xs).length : Nat)) H1
section
variable {X : Cx}
theorem pe_lenTxt {a : Expr} {ta : TE} {p p2 q pos : Pos} (hg : Gl X "len") (ml : X.mg "len" = none) (hg2 : Gl X "set") (ms : X.mg "set" = none) (ha : PE X a ta) (quiet : X.calm = true := by rfl)
    (plain : starEach [a] X.env = (false, eval a X.env) :: starEach [] X.env := by rfl) : PE X (.Call (.Name "len" p) [.Call (.Name "set" p2) [a] [] q] [] pos) (tLenTxt X.K ta) := by
  refine ⟨fun pins s σ H Q I h => Call_ (ld_blt I hg ml boot_len (callWith_builtin1 (args_cons (Call_ (ld_blt I hg2 ms boot_set ?_)) rfl) rfl rfl))⟩
  refine callWith_type1 (args_cons (thn (ha.run pins s σ H _ I h) fun v z ⟨x, H1, J, rx, l, xs, ex, tq, few, fin⟩ => args_nil ?_) plain) plain rfl
  subst ex
  cases rx
  obtain ⟨its, rv, tup, _⟩ := J.tuple tq
  have small : (dd xs).length ≤ 1000 := Nat.le_trans (dd_len xs.length xs rfl) few
  refine call_texts (J.ok.hd quiet) tup (xs := xs) (by simpa using strsAre_of rv) (by unfold scanBound; omega) fun k tk qs kp => args_nil ?_
  obtain ⟨o, es, ep, tb, h1, h2, h3, _, _, _, h4, h5⟩ := qs
  have J2 : Inv X pins σ H1 { z with heap := k, toks := tk } := J.kept fun b o e => kp b o (Heap.lt_size e) e
  exact call_len_set h1 h2 h3 h4 (by rw [h5]; omega) ⟨.int ((dd xs).length : Nat), H1, J2.tok _, ⟨_, by rw [h5]⟩, fin⟩
end
end SH

set_option Elab.async false
set_option linter.all false
set_option maxRecDepth 100000
set_option maxHeartbeats 2000000
/-! {e for x in xs}, e a text. -/
namespace SH
open PySem PySem.Spec PyProof.Rows L2 SHSet
/-- the set of texts at D -/
def TxtO (P : Program) (w : World) (D : Addr) (xs : List Str) : HO := .ext fun h => TxtSet P w h D xs
theorem txtO_ok {P : Program} {w : World} {H : Hp} {h : Heap} {D : Addr} {xs : List Str} (q : TxtSet P w h D xs) : ObjOk P w H h D (TxtO P w D xs) := by
  have q' := q
  obtain ⟨o, _, _, _, ho, _⟩ := q'
  exact ⟨q, ⟨o, ho⟩, fun h1 h2 p k => TxtSet.keep p k⟩
section
variable {X : Cx}
theorem add_txt {pins : List (Addr × Obj)} {σ : L2.St} {H : Hp} {s : Shared} {E : Value → Shared → Prop} {D : Addr} {xs : List Str} {z : Str} {t : Tok} {Q : Value → Shared → Prop} (I : Inv X pins σ H s) (hD : H D = some (TxtO X.prog X.w D xs)) (few : xs.length + 1 < scanBound)
    (h : ∀ s', Inv X pins σ (upd H D (TxtO X.prog X.w D (addT xs z))) s' → Q .none s') : wpAny (model X.prog X.w) X.A (call (.builtin "set.add") [.ref D, .str z t]) Q E s := by
  have q : TxtSet X.prog X.w s.heap D xs := (I.hok D _ hD).1
  refine call_set_add (knd := strKind X.prog X.w) (k := z) (strKind_is X.prog X.w z t) rfl q few fun k sb st => ?_
  have nw : TxtSet X.prog X.w k D (addT xs z) := by
    unfold addT
    by_cases hy : z ∈ xs
    · rw [if_pos hy]
      refine SetOf_congr st (fun y => ?_) (by rw [decide_eq_true hy]; rfl)
      by_cases e : y = z
      · subst e; simp [hy]
      · simp [e]
    · rw [if_neg hy]
      refine SetOf_congr st (fun y => ?_) ?_
      · simp [List.mem_append]
      · rw [if_neg (by rw [decide_eq_false hy]; exact Bool.false_ne_true), List.length_append]
        rfl
  have ex : ∃ u, k.get? D = some u := by
    have n2 := nw
    obtain ⟨o, _, _, _, ho, _⟩ := n2
    exact ⟨o, ho⟩
  exact h _ (I.write (e := D) (t' := s.toks + 1) (by rw [hD]; trivial) (.inl rfl) (fun b u hb hu => (sb.2 b hb).trans hu) ex (txtO_ok nw))
/-- the readings of {e for x in xs}: D the new set -/
def tTxc (P : Program) (w : World) (wi : TI) (g : TG) (te : TE) (vs : List Nat) : TE := fun σ H Q => wi σ H fun J H1 => ∀ D, H1 D = none → ∃ W : Nat → Nat → Hp → Prop, (∃ m, W 0 m (upd H1 D (TxtO P w D []))) ∧ ∀ i m H, W i m H →
  (J.stop i H ∧ Q (.ref D) H) ∨ (J.go i H ∧ ∃ Nx : Hp → Prop, (∀ H', Nx H' → ∃ m', m' < m ∧ W (i + 1) m' H') ∧ ∀ x H', J.yld i H x H' → g x (wipe σ vs) H' fun σ2 H2 => wipe σ2 vs = wipe σ vs ∧
    te σ2 H2 fun y H4 => ∃ (z : Str) (xs : List Str), y = .str z ∧ H4 D = some (TxtO P w D xs) ∧ xs.length + 1 < scanBound ∧ Nx (upd H4 D (TxtO P w D (addT xs z))))
abbrev freshSet (w : World) : Obj := { cls := .type "set", dict := none, data := .set #[] 0 (.fresh 0 0 (!w.params.followText "set-order")) }
theorem pe_txc {elt tg iter : Expr} {scope : Scope} {own : List (PySem.Str × Nat)} {pos : Pos} {wi : TI} {g : TG} {te : TE} (quiet : X.calm = true) (ndN : X.N.Nodup) (hi : PI X tg iter wi) (ok : BlkOk X.N X.env.scope scope own)
    (hg : ∀ (s : Shared) (H : Hp) (C : Addr) (cl : List (PySem.Str × Addr)) (fp : List Addr), PG (X.blk s H scope (compEnvC scope cl C X.env) fp) tg g)
    (he : ∀ (s : Shared) (H : Hp) (C : Addr) (cl : List (PySem.Str × Addr)) (fp : List Addr), PE (X.blk s H scope (compEnvC scope cl C X.env) fp) elt te) (fold : ∀ x, foldedSetIterable iter X.env x = pure x := by intro _; rfl) :
    PE X (.SetComp elt [⟨tg, iter, [], 0⟩] scope pos) (tTxc X.prog X.w wi g te (own.map (·.2))) := by
  refine ⟨fun pins s σ H Q I h => ?_⟩
  rw [PpSet.eval_SetComp]
  have fr : ∀ y ∈ scope.names, y.2 = .free → ∃ c, X.env.cells.lookup y.1 = some c := fun y hy e => (ok.free y hy e).elim (fun k => I.ok.has _ (.inl k)) fun k => I.ok.has _ (.inr k)
  refine wpAny_comprehension_free (use := none) rfl fold (closure_ok fr) ok.kind (fun y hy e => by rw [ok.uniq y hy, e]) (thn (hi.run pins s σ H _ I h) fun _ s1 hx => thn hx fun _ s2 ⟨it, fp, tn, J, H2, e, I2, T, st2, f2, q⟩ => ?_)
  subst e
  refine PpSet.newSet_ok (newEnv_comp ?_)
  generalize hD : s2.heap.objs.size = D
  obtain ⟨W, ⟨m0, w0⟩, turn⟩ := q D (I2.hok.fresh (Nat.le_of_eq hD))
  generalize ez : ({ s2 with heap := s2.heap.push (freshSet X.w) } : Shared) = sz
  have I3 : Inv X pins σ (upd H2 D (TxtO X.prog X.w D [])) sz := by
    subst ez
    refine I2.laid (t' := s2.toks) (fun b o e => Heap.get?_push_of_some _ e) (Nat.le_of_eq hD) ?_
    subst hD
    exact txtO_ok (txt0 (Heap.get?_push_size _ rfl))
  have hh : sz.heap = s2.heap.push (freshSet X.w) := by subst ez; rfl
  have below : ∀ b ∈ fp, b < s2.heap.objs.size := fun b hb => (T.obj _ _ st2 b hb).elim fun o ho => Heap.lt_size ho.1
  have f3 : ∀ b ∈ fp, FpOk X pins (upd H2 D (TxtO X.prog X.w D [])) b ∧ b < sz.heap.objs.size := fun b hb => by
    refine ⟨⟨?_, (f2 b hb).2⟩, by rw [hh, Heap.size_push]; exact Nat.lt_succ_of_lt (below b hb)⟩
    rw [upd_ne (fun z => Nat.lt_irrefl _ (hD ▸ z ▸ below b hb))]
    exact (f2 b hb).1
  have st3 : tn 0 sz.heap := T.keep _ _ _ st2 fun b _ o e => by rw [hh]; exact Heap.get?_push_of_some _ e
  have I4 := block_start I3 ok ndN f3
  have pg := hg sz (upd H2 D (TxtO X.prog X.w D [])) sz.heap.objs.size (cellsFrom (sz.heap.objs.size + 1) scope.names (cloFrom X.env.cells scope.names [])) fp
  have pe := he sz (upd H2 D (TxtO X.prog X.w D [])) sz.heap.objs.size (cellsFrom (sz.heap.objs.size + 1) scope.names (cloFrom X.env.cells scope.names [])) fp
  show codeAny _ _ (.compStart (.SetComp elt [⟨tg, iter, [], 0⟩] scope pos) 0 (.ref it) (.ref D) (compEnvC scope (cellsFrom (sz.heap.objs.size + 1) scope.names (cloFrom X.env.cells scope.names [])) sz.heap.objs.size X.env)) (compPost (model X.prog X.w) X.A X.xe none _ (.ref D) sz.heap.objs.size) { sz with heap := pushCells (sz.heap.push { cls := .type "dict", data := .dict #[] }) scope.names }
  have nfp : ∀ b ∈ fp, (upd H2 D (TxtO X.prog X.w D [])) b = none := fun b hb => (f3 b hb).1.1
  generalize ec : compEnvC scope (cellsFrom (sz.heap.objs.size + 1) scope.names (cloFrom X.env.cells scope.names [])) sz.heap.objs.size X.env = ce at I4 pg pe ⊢
  have cl : ce.locals = sz.heap.objs.size := by subst ec; rfl
  generalize upd H2 D (TxtO X.prog X.w D []) = H3 at I3 I4 pg pe w0 nfp f3
  generalize e4 : ({ sz with heap := pushCells (sz.heap.push { cls := .type "dict", data := .dict #[] }) scope.names } : Shared) = s4 at I4 ⊢
  have st4 : tn 0 s4.heap := T.keep _ _ _ st3 fun b _ o e => by rw [← e4]; exact pushCells_keeps _ _ _ _ (Heap.get?_push_of_some _ e)
  have stat : ∀ {σ' : L2.St} {H' : Hp} {s' : Shared}, Inv (X.blk sz H3 scope ce fp) [] σ' H' s' → (∀ b ∈ fp, H' b = none) → ∀ b ∈ fp, FpOk (X.blk sz H3 scope ce fp) [] H' b := fun {_ _ _} K hn b hb =>
    ⟨hn b hb, (K.ok.exf b hb).1, K.ok.exfs b hb, .inl hb, fun x c e => (K.ok.exf b hb).2 x c e, fun p hp => absurd (show p ∈ ([] : List (Addr × Obj)) ++ [] from hp) (by simp)⟩
  have loop : codeAny (model X.prog X.w) X.A (.compLoop (.SetComp elt [⟨tg, iter, [], 0⟩] scope pos) 0 (.ref it) (.ref D) ce) (compPost (model X.prog X.w) X.A X.xe none (EP X pins σ Q) (.ref D) sz.heap.objs.size) s4 := by
    refine PpSet.compLoopS_any (fun n z => ∃ i H', Inv (X.blk sz H3 scope ce fp) [] (wipe σ (own.map (·.2))) H' z ∧ tn i z.heap ∧ (∀ b ∈ fp, H' b = none) ∧ W i n H') ?_ m0 ⟨0, H3, I4, st4, nfp, w0⟩
    rintro n s5 ⟨i, H5, I5, st5, n5, w5⟩
    rcases turn i n H5 w5 with ⟨stop, qq⟩ | ⟨go, Nx, hNx, step⟩
    · refine thnF (T.done (X.blk sz H3 scope ce fp) rfl rfl rfl quiet i [] s5 _ H5 (fun _ _ => False) I5 (stat I5 n5) st5 stop) fun r s6 ⟨hr, I6⟩ => ?_
      subst hr
      have I7 : Inv X pins σ H5 s6 := I3.call' (ch := fp) I6.os I6.base I6.hok I6.bare fun b hb => have u := (f3 b hb).1.2; ⟨u.2.2.1, u.1, u.2.2.2.1, u.2.2.2.2⟩
      have nC : H5 sz.heap.objs.size = none := cl ▸ (show H5 ce.locals = none from I6.free)
      obtain ⟨m, hn, _⟩ := I6.loc
      have hn' : s6.heap.Ns sz.heap.objs.size m := cl ▸ (show s6.heap.Ns ce.locals m from hn)
      obtain ⟨u0, u1, u2, u3, u4, u5⟩ := I3.fpOk (Nat.le_refl _) nC
      refine ⟨m, hn', fun k sb => ⟨.ref D, H5, I7.turned (t' := s6.toks) (fun b o hb e => (sb.2 b hb).trans e) u0 u1 u3 u4 u5, rfl, qq⟩⟩
    · refine thnF (T.item (X.blk sz H3 scope ce fp) rfl rfl rfl quiet i [] s5 _ H5 (fun _ _ => False) I5 (stat I5 n5) st5 go) fun r s6 ⟨u, hr, h6⟩ => ?_
      subst hr
      refine thnF h6 fun _ s7 ⟨x, H7, I7, r7, y7, st7, n7⟩ => ?_
      refine thnF (pg.run _ s7 _ H7 x u _ (I7.pinned (stat I7 n7) (T.obj _ _ st7)) r7 (step x H7 y7)) fun _ s8 ⟨σ8, H8, I8, hw8, q8⟩ => ?_
      refine thnF ((pts_nil (X := X.blk sz H3 scope ce fp)).run _ s8 σ8 H8 _ I8 (show tYes σ8 H8 (fun b K => b = true ∧ te σ8 K _) from ⟨rfl, q8⟩)) fun b s9 ⟨H9, I9, eb, q9⟩ => ?_
      subst eb
      simp only [if_true]
      refine thnF (pe.run _ s9 σ8 H9 _ I9 q9) fun z s10 ⟨yv, H10, I10, r10, zt, xs, ey, hD10, few, nx⟩ => ?_
      subst ey
      obtain ⟨tk, rfl⟩ := (show ∃ tk, z = Value.str zt tk from r10)
      refine add_txt (X := X.blk sz H3 scope ce fp) I10 hD10 few fun s11 I11 => ?_
      obtain ⟨m', hm, w'⟩ := hNx _ nx
      have pin : ∀ b ∈ fp, ∀ o, s7.heap.get? b = some o → s11.heap.get? b = some o ∧ (upd H10 D (TxtO X.prog X.w D (addT xs zt))) b = none := fun b hb o e =>
        have v := I11.pin (b, o) (List.mem_append_right _ (List.mem_append_right _ (mem_pinsAt hb e)))
        ⟨v.1, v.2.1⟩
      refine ⟨m', hm, i + 1, _, (I11.unpinned (pins := [])).weak (by rw [← hw8, wipe_length]) (fun j v e => ?_), T.keep _ _ _ st7 fun b hb o e => (pin b hb o e).1, fun b hb => ?_, w'⟩
      · rw [← hw8] at e
        exact (wipe_some e).1
      · exact (T.obj _ _ st7 b hb).elim fun o ho => (pin b hb o ho.1).2
  exact PpSet.codeAny_compStart_set loop (T.self X.A 0 _ _ _ st4 loop)
/-- len of such a set -/
theorem call_lenTxt : CallR X (.builtin "len") (fun xs H Q => ∃ (D : Addr) (l : List Str), xs = [.ref D] ∧ H D = some (TxtO X.prog X.w D l) ∧ l.length ≤ 1000 ∧ Q (.int (l.length : Nat)) H) := by
  intro pins s σ H xs us Q I r h
  obtain ⟨D, l, rfl, hD, few, q⟩ := h
  obtain ⟨u, rfl, ru⟩ := vals1 r
  cases ru
  obtain ⟨o, es, ep, tb, h1, h2, h3, _, _, _, h4, h5⟩ := (I.hok D _ hD).1
  exact call_len_set h1 h2 h3 h4 (by rw [h5]; omega) ⟨.int (l.length : Nat), H, I.tok _, ⟨_, by rw [h5]⟩, q⟩
end
end SH

set_option Elab.async false
set_option linter.all false
set_option maxRecDepth 100000
namespace SH
open PySem PySem.Spec PyProof.Rows L2
section
variable {X : Cx}
/-- y = {k: v for x in xs} -/
theorem ps_setDc {i : Nat} {y : PySem.Str} {py : Pos} {kx vx tg iter : Expr} {scope : Scope} {own : List (PySem.Str × Nat)} {pos spos : Pos} {wi : TI} {g : TG} {tk tv : TE} (quiet : X.calm = true) (ndN : X.N.Nodup) (hy : X.N[i]? = some y) (yl : X.env.scope.names.lookup y = some .local)
    (swap : swapsWith (.DictComp kx vx [⟨tg, iter, [], 0⟩] scope pos) (some (.Name y py)) spos.line X.env = pure true) (hi : PI X tg iter wi) (ok : BlkOk X.N X.env.scope scope own)
    (hg : ∀ (s : Shared) (H : Hp) (C : Addr) (cl : List (PySem.Str × Addr)) (fp : List Addr), PG (X.blk s H scope (compEnvC scope cl C X.env) fp) tg g)
    (hk : ∀ (s : Shared) (H : Hp) (C : Addr) (cl : List (PySem.Str × Addr)) (fp : List Addr), PE (X.blk s H scope (compEnvC scope cl C X.env) fp) kx tk)
    (hv : ∀ (s : Shared) (H : Hp) (C : Addr) (cl : List (PySem.Str × Addr)) (fp : List Addr), PE (X.blk s H scope (compEnvC scope cl C X.env) fp) vx tv) (fold : ∀ x, foldedSetIterable iter X.env x = pure x := by intro _; rfl) :
    PS X (.Assign [.Name y py] (.DictComp kx vx [⟨tg, iter, [], 0⟩] scope pos) spos) (tAsg (tDc wi g tYes tk tv (own.map (·.2))) (gName i)) := by
  refine ⟨fun pins s σ H D I h => ?_⟩
  rw [exec_Assign_Name_used _ _ _ _ swap]
  refine wpAny_bind (wpAny_standAt (wpAny_bind (show wpAny _ X.A (do let _ ← comprehension (.DictComp kx vx [⟨tg, iter, [], 0⟩] scope pos) scope X.env (firstIterPos [⟨tg, iter, [], 0⟩] pos) newDict false (eval iter X.env) (some (assign (.Name y py) X.env))) _ _ s from ?_)))
  refine wpAny_bind (thn (dc_core (Q := fun x H1 => gName i x σ H1 D.nx) (Qf := fun _ z => SP X pins D .next z) quiet ndN I hi ok hg (fun _ _ _ _ _ => pts_nil) hk hv fold h fun L C z m H' J q hn f => ?_) fun _ z hq => wpAny_pure (wpAny_pure hq))
  refine (show wpAny _ _ (assign (.Name y py) X.env (.ref L)) _ _ _ from wpAny_assign_Name (store_ok2 (v := V.ref L) J ndN hy (.inl yl) rfl (fun u J2 ⟨a, sb, ha⟩ => ?_) (.inr yl)))
  have other : C ≠ a := ha.elim (fun e => e ▸ f.2.1) fun e k => f.2.2.2.2.1 y a e k.symm
  exact ⟨m, hn.sameBut sb other, fun k sk => ⟨_, H', J2.turned (t' := u.toks) (fun b o hb e => (sk.2 b hb).trans e) f.1 f.2.1 f.2.2.2.1 f.2.2.2.2.1 f.2.2.2.2.2, q⟩⟩
theorem sw_dict {kx vx : Expr} {gs : List Comprehension} {scope : Scope} {pos py : Pos} {y : PySem.Str} {l : Nat} {env : Env} (hk : env.scope.kind = .function) (hy : env.scope.names.lookup y = some .local) (hl : (py.line == pos.line) = true)
    (ha : (scope.names.any fun (n, k) => n == y && (k == .local || k == .cell)) = false) : swapsWith (.DictComp kx vx gs scope pos) (some (.Name y py)) l env = pure true := by
  have k1 : env.kindOf y = some .local := hy
  have k2 : env.blockKind = .function := by unfold Env.blockKind; rw [hk]; rfl
  unfold swapsWith
  simp only [k2, k1, ha, Expr.pos, hl]
  rfl
/-- str(x) by an own __str__ -/
def rStrOwn (C : Addr) (sp : Sp) : List V → Hp → VK → Prop := fun xs H Q => ∃ (a dx : Addr) (fs : List (PySem.Str × V)), xs = [V.ref a] ∧ H a = some (.ins C dx fs) ∧ sp [.ref a] H (fun v H' => ∃ z, v = .str z ∧ Q v H') E0
theorem call_strOwn {C g : Addr} {gd : FuncData} {n : Nat} {sp : Sp} (hs : PySem.W.findIn X.K (.ref C) "__str__" = some (some (.ref g))) (hf : PySem.W.isFn X.K (.ref g) = true) (F : FnOk X.prog X.w X.K X.mg X.base CX0 n g gd ["self"] sp) (hb : Binds X.K gd ["self"] []) (hr : Room (n + 2) X.A) : CallR X (.type "str") (rStrOwn C sp) := by
  intro pins s σ H xs us Q I r h
  obtain ⟨a, dx, fs, rfl, ha, q⟩ := h
  obtain ⟨u, rfl, ru⟩ := vals1 r
  cases ru
  obtain ⟨mA, om, _⟩ := ins_get I.hok ha
  obtain ⟨od, J, _⟩ := om.look
  have room : Room n X.A.in1.in1 := (show Room (n + 1) X.A.in1 from Room.in1 hr).in1
  have hu : X.A.in1.in1.units < cLine := by have := room.un; omega
  have rv : Vals [V.ref a] [Value.ref a] := .cons rfl .nil
  refine PySem.W.kso_call hu I.kIn J hs hf (wpAny_call (codeAny_mono (F.run X.A.in1.in1 X.stack s H ⟨[.ref a], []⟩ [.ref a] [.ref a] _ E0 room I.env0.in1.in1 (hb s [.ref a] I.kIn rfl) rv q) fun r z hq => ?_))
  cases r with
  | error e => exact hq.elim
  | ok fl =>
    cases fl with
    | ret v =>
      obtain ⟨y, H', J2, ry, t, ey, fin⟩ := I.after hq
      subst ey
      obtain ⟨tk, rfl⟩ := (show ∃ tk, v = Value.str t tk from ry)
      exact ⟨.str t, H', J2, ⟨tk, rfl⟩, fin⟩
    | _ => exact False.elim hq
end
end SH

set_option Elab.async false
set_option linter.all false
set_option maxRecDepth 100000
namespace SW
open PySem PySem.SeqAt PySem.Spec PyProof.Rows
open AutoSeq1 (wpAny_loadPart')
open MeetsSeq MeetsSeq2 MeetsSeq3 SeqRoads2
section
variable {M : Model} {prog : Program} {w : World} {A : Around} {E : Value → Shared → Prop} {s : Shared} {K : PySem.W.Frag} {x C f : Addr} {ox : Obj} {od : Option Obj} {b tb : Value}
/-- the != that every class has, bound -/
theorem bound_ne {args : List Value} {Q : Option Value → Shared → Prop} (KX : K.In s.heap) (J : PySem.W.InstAt s.heap x ox C od) (hN : PySem.W.findIn K (.ref C) "__ne__" = some (some (.builtin "object.__ne__")))
    (h : wpAny M A (call (.builtin "object.__ne__") (.ref x :: args)) (fun v => Q (some v)) E s) : wpAny M A (callSpecialIfBound? (.ref x) "__ne__" args) Q E s := by
  simp only [bindSpecialIfBound?, callSpecialIfBound?]
  refine wpAny_holding (wpAny_bind (wpAny_bind (wpAny_bind (J.type.here ((PySem.W.looks_findIn KX hN).here (wpAny_bind (wpAny_askSetting (wpAny_ite ?_))))))))
  have last : wpAny M A (call (.builtin "object.__ne__") ([.ref x] ++ args) >>= fun v => pure (some v)) Q E s := wpAny_bind (wpAny_mono h (fun _ _ z => wpAny_pure z) fun _ _ z => z)
  split
  · exact wpAny_bind (wpAny_of_eq (F.cmp_object.ne.bind _) (wpAny_pure (by exact last)))
  · exact wpAny_tryCatch (wpAny_bind (wpAny_of_eq (F.cmp_object.ne.bind _) (wpAny_pure (by exact last))))
theorem ne_entry {Q : Fin → Shared → Prop} (KX : K.In s.heap) (J : PySem.W.InstAt s.heap x ox C od) (hE : PySem.W.findIn K (.ref C) "__eq__" = some (some (.ref f))) (hf : PySem.W.isFn K (.ref f) = true) (hu : A.units < cLine)
    (hc : wpAny M A (call (.ref f) [.ref x, b]) (fun v s' => ∃ r, v = .bool r ∧ Q (.done (.ret (.bool (!r)))) s') E s) : wpAny M A (Builtin.«object.__ne__» ⟨[.ref x, b], []⟩) Q E s := by
  unfold Builtin.«object.__ne__»
  repeat (first
    | with_reducible refine wpAny_cRoomFor hu ?_
    | (refine wpAny_bind (m := callSpecialIfBound? (.ref x) (Str.ofString "__eq__") [b]) (PySem.W.ifBound_K KX J hE hf (wpAny_mono hc (fun r s' z => by
          obtain ⟨t, rfl, q⟩ := z
          repeat (first | exact q | exact wpAny_pure q | exact wpAny_truthy_bool q | (refine wpAny_bind (m := truthy (.bool _)) (wpAny_truthy_bool ?_)) | wp_step)) fun _ _ z => z)))
    | wp_step)
theorem rc_ne {Q : Value → Shared → Prop} (hu : A.units + 1 < cLine) (KX : K.In s.heap) (J : PySem.W.InstAt s.heap x ox C od) (hb : PySem.W.Looks (model prog w) s.heap (typeOf b) tb) (hn : PySem.W.notFirst K C tb = true)
    (hN : PySem.W.findIn K (.ref C) "__ne__" = some (some (.builtin "object.__ne__"))) (hE : PySem.W.findIn K (.ref C) "__eq__" = some (some (.ref f))) (hf : PySem.W.isFn K (.ref f) = true) (hm : PySem.W.mroIn K C (.type "object") = some true)
    (hc : wpAny (model prog w) A.in1 (call (.ref f) [.ref x, b]) (fun v s' => ∃ r, v = .bool r ∧ Q (.bool (!r)) s') E s) : wpAny (model prog w) A (richCompare .NotEq (.ref x) b) Q E s := by
  have one : wpAny (model prog w) A (tryCompare (.ref x) "__ne__" b) (fun r s' => ∃ v, r = some v ∧ Q v s') E s := by
    unfold tryCompare
    refine wpAny_bind (bound_ne KX J hN (wpAny_call (codeAny_call_builtin F.cmp_object.ne.plain F.cmpEntry_ne (PySem.W.check_slot F.cmpKind_ne F.cmpSplit_ne (J.type.andThen (PySem.W.looks_mroIn KX hm)) (F.cmpArgs_ne _ _)
      (ne_entry (A := A.in1) KX J hE hf hu (wpAny_mono hc (fun v s' z => ?_) fun _ _ z => z))))))
    obtain ⟨r, rfl, q⟩ := z
    exact ⟨r, rfl, wpAny_pure ⟨_, rfl, q⟩⟩
  unfold richCompare
  simp only [oneThing_ref, cmpInfo_NotEq]
  refine wpAny_holding (wpAny_bind (wpAny_cRoomFor (by omega) (wpAny_bind (J.type.here (wpAny_bind (hb.here ?_))))))
  split
  · rename_i q
    have e : PySem.W.subIn K tb (.ref C) = some false := by
      rcases Bool.or_eq_true_iff.mp hn with e | e
      · rw [beq_iff_eq.mp e] at q
        simp at q
      · exact beq_iff_eq.mp e
    refine wpAny_bind ((PySem.W.looks_subIn KX e).here ?_)
    simp only [Bool.false_eq_true, if_false]
    refine wpAny_bind (wpAny_mono one (fun r s' z => ?_) fun _ _ z => z)
    obtain ⟨v, rfl, k⟩ := z
    exact wpAny_pure k
  · refine wpAny_bind (wpAny_pure ?_)
    simp only [Bool.false_eq_true, if_false]
    refine wpAny_bind (wpAny_mono one (fun r s' z => ?_) fun _ _ z => z)
    obtain ⟨v, rfl, k⟩ := z
    exact wpAny_pure k
/-- the right one's own == is asked where the left one, of a built-in type, knows nothing of it -/
theorem rc_back {u : Value} {T : String} {Q : Value → Shared → Prop} (hu : A.units < cLine) (KX : K.In s.heap) (J : PySem.W.InstAt s.heap x ox C od) (hT : s.TypeIs u T) (hs : PySem.W.mroIn K C (.type T) = some false)
    (hE : PySem.W.findIn K (.ref C) "__eq__" = some (some (.ref f))) (hf : PySem.W.isFn K (.ref f) = true) (no : wpAny (model prog w) A (tryCompare u "__eq__" (.ref x)) (fun r s' => r = none ∧ s' = s) E s)
    (hc : wpAny (model prog w) A (call (.ref f) [.ref x, u]) (fun v s' => ∃ r, v = .bool r ∧ Q (.bool r) s') E s) : wpAny (model prog w) A (richCompare .Eq u (.ref x)) Q E s := by
  have two : wpAny (model prog w) A (tryCompare (.ref x) "__eq__" u) (fun r s' => ∃ v, r = some v ∧ Q v s') E s := by
    unfold tryCompare
    refine wpAny_bind (PySem.W.ifBound_K KX J hE hf (wpAny_mono hc (fun v s' z => ?_) fun _ _ z => z))
    obtain ⟨r, rfl, q⟩ := z
    exact wpAny_pure ⟨_, rfl, q⟩
  simp only [richCompare, cmpInfo_Eq, hT.oneThing_none]
  refine wpAny_holding (wpAny_bind (wpAny_cRoomFor hu ?_))
  refine wpAny_bind (wpAny_typeOf hT (wpAny_bind (J.type.here ?_)))
  split
  · refine wpAny_bind ((PySem.W.looks_mroIn KX hs).here ?_)
    simp only [Bool.not_false, Bool.false_eq_true, if_true, if_false]
    refine wpAny_bind (m := tryCompare u _ (.ref x)) (wpAny_mono no (fun r s1 z => ?_) fun _ _ z => z)
    obtain ⟨rfl, rfl⟩ := z
    refine wpAny_bind (m := tryCompare (.ref x) _ u) (wpAny_mono two (fun r s2 z => ?_) fun _ _ z => z)
    obtain ⟨v, rfl, k⟩ := z
    exact wpAny_pure k
  · rename_i q
    exact absurd (by simp) q
/-- y is the one item of a list: is x in it? -/
theorem in_one {l : Addr} {y v : Value} {its : Array Value} {n : Nat} {dd : Option Addr} {sl : Array (Option Value)} {Q : Value → Shared → Prop} (i0 : its[0]? = some y) (hl : s.heap.get? l = some { cls := .type "list", dict := dd, data := .seq its n, slots := sl })
    (he : wpAny (model prog w) A.in1 (eqBool y v) (fun r s' => (∃ (its' : Array Value) (n' : Nat) (dd' : Option Addr) (sl' : Array (Option Value)), its'[1]? = none ∧ s'.heap.get? l = some { cls := .type "list", dict := dd', data := .seq its' n', slots := sl' }) ∧ Q (.bool r) s') E s) : wpAny (model prog w) A (compareOp .In v (.ref l)) Q E s := by
  show wpAny _ A (do return .bool (← contains (.ref l) v)) Q E s
  refine wpAny_bind (wpAny_contains_slot ⟨_, hl, rfl⟩ F.slot_list_contains (wpAny_mono (Q := fun z s' => ∃ r, z = .bool r ∧ Q (.bool r) s') (GQ.call_here F.slot_list_contains ⟨_, hl, rfl⟩ F.entry_list_contains (F.args_list_contains_2 _ _) ?_) (fun z s' hz => ?_) fun _ _ z => z))
  · obtain ⟨hp, g, d, tk, os⟩ := s
    wp_walk using wpAny_loadPart' hl
    refine ⟨plainId_quiet plain_contains_loop _, codeAny_builtin entry_contains_loop ?_⟩
    rw [Around.under_plainId plain_contains_loop _]
    have e0 : its[((0 : Nat) : Int).toNat]? = some y := i0
    have e0' : its[(0 : Int).toNat]? = some y := i0
    wp_walk using wpAny_loadPart' hl
    first | rw [e0] | rw [e0'] | rw [i0]
    refine wpAny_bind (wpAny_mono he (fun r s2 z => ?_) fun _ _ z => z)
    obtain ⟨⟨its', n', dd', sl', i1', hl2⟩, q⟩ := z
    obtain ⟨hp2, g2, d2, tk2, os2⟩ := s2
    cases r with
    | true =>
      wp_walk
      exact ⟨true, rfl, q⟩
    | false =>
      wp_walk
      refine ⟨plainId_quiet plain_contains_loop _, codeAny_builtin entry_contains_loop ?_⟩
      rw [Around.under_plainId plain_contains_loop _]
      have e1 : its'[((0 : Int) + 1).toNat]? = none := i1'
      wp_walk using wpAny_loadPart' hl2
      first | rw [e1] | rw [i1']
      wp_walk
      exact ⟨false, rfl, q⟩
  · obtain ⟨r, rfl, q⟩ := hz
    exact wpAny_truthy_bool (wpAny_pure q)
/-- what knows nothing of an instance -/
theorem no_none (hx : s.heap.get? x = some ox) : wpAny (model prog w) A (tryCompare .none "__eq__" (.ref x)) (fun r s' => r = none ∧ s' = s) E s :=
  wpAny_tryCompare_declines (T := "NoneType") rfl F.slot_NoneType_eq_refl (GQ.call_here F.slot_NoneType_eq_refl rfl F.entry_NoneType_eq (F.args_NoneType_eq_2 _ _) (by
    obtain ⟨hp, g, d, tk, os⟩ := s
    wp_walk
    exact ⟨rfl, rfl, rfl⟩))
theorem no_int {i : Int} {t : Tok} {dx : Addr} (hx : s.heap.get? x = some (PySem.W.instObj C dx)) : wpAny (model prog w) A (tryCompare (.int i t) "__eq__" (.ref x)) (fun r s' => r = none ∧ s' = s) E s :=
  wpAny_tryCompare_declines (T := "int") rfl F.slot_int_eq_refl (GQ.call_here F.slot_int_eq_refl rfl F.entry_int_eq (F.args_int_eq_2 _ _) (by
    obtain ⟨hp, g, d, tk, os⟩ := s
    wp_walk using wpAny_loadPart' hx, wpAny_load hx
    exact ⟨rfl, rfl, rfl⟩))
theorem no_bool {i : Bool} {dx : Addr} (hx : s.heap.get? x = some (PySem.W.instObj C dx)) : wpAny (model prog w) A (tryCompare (.bool i) "__eq__" (.ref x)) (fun r s' => r = none ∧ s' = s) E s :=
  wpAny_tryCompare_declines (T := "bool") rfl F.slot_bool_eq_refl (GQ.call_here F.slot_bool_eq_refl rfl F.entry_int_eq (F.args_int_eq_2 _ _) (by
    obtain ⟨hp, g, d, tk, os⟩ := s
    wp_walk using wpAny_loadPart' hx, wpAny_load hx
    exact ⟨rfl, rfl, rfl⟩))
theorem no_str {i : Str} {t : Tok} {dx : Addr} (hx : s.heap.get? x = some (PySem.W.instObj C dx)) : wpAny (model prog w) A (tryCompare (.str i t) "__eq__" (.ref x)) (fun r s' => r = none ∧ s' = s) E s :=
  wpAny_tryCompare_declines (T := "str") rfl F.slot_str_eq_refl (GQ.call_here F.slot_str_eq_refl rfl F.entry_str_eq (F.args_str_eq_2 _ _) (by
    obtain ⟨hp, g, d, tk, os⟩ := s
    wp_walk using wpAny_loadPart' hx, wpAny_load hx
    exact ⟨rfl, rfl, rfl⟩))
theorem no_list {l : Addr} {its : Array Value} {n : Nat} {dd : Option Addr} {sl : Array (Option Value)} (hl : s.heap.get? l = some { cls := .type "list", dict := dd, data := .seq its n, slots := sl }) (KX : K.In s.heap) (J : PySem.W.InstAt s.heap x ox C od) (hm : PySem.W.mroIn K C (.type "list") = some false) :
    wpAny (model prog w) A (tryCompare (.ref l) "__eq__" (.ref x)) (fun r s' => r = none ∧ s' = s) E s :=
  wpAny_tryCompare_declines (T := "list") ⟨_, hl, rfl⟩ F.slot_list_eq_refl (GQ.call_here F.slot_list_eq_refl ⟨_, hl, rfl⟩ F.entry_list_eq (F.args_list_eq_2 _ _) (by
    have e : PySem.W.Looks (model prog w) s.heap (isInstance (.ref x) (.type "list")) false := J.type.andThen (PySem.W.looks_mroIn KX hm)
    obtain ⟨hp, g, d, tk, os⟩ := s
    wp_walk using wpAny_loadPart' hl, e.here
    exact ⟨rfl, rfl, rfl⟩))
theorem no_tup {l : Addr} {its : Array Value} {n : Nat} {dd : Option Addr} {sl : Array (Option Value)} (hl : s.heap.get? l = some { cls := .type "tuple", dict := dd, data := .seq its n, slots := sl }) (KX : K.In s.heap) (J : PySem.W.InstAt s.heap x ox C od) (hm : PySem.W.mroIn K C (.type "tuple") = some false) :
    wpAny (model prog w) A (tryCompare (.ref l) "__eq__" (.ref x)) (fun r s' => r = none ∧ s' = s) E s :=
  wpAny_tryCompare_declines (T := "tuple") ⟨_, hl, rfl⟩ F.slot_tuple_eq_refl (GQ.call_here F.slot_tuple_eq_refl ⟨_, hl, rfl⟩ F.entry_tuple_eq (F.args_tuple_eq_2 _ _) (by
    have e : PySem.W.Looks (model prog w) s.heap (isInstance (.ref x) (.type "tuple")) false := J.type.andThen (PySem.W.looks_mroIn KX hm)
    obtain ⟨hp, g, d, tk, os⟩ := s
    wp_walk using wpAny_loadPart' hl, e.here
    exact ⟨rfl, rfl, rfl⟩))
end
end SW

set_option Elab.async false
set_option linter.all false
set_option maxRecDepth 100000
namespace SH
open PySem PySem.Spec PyProof.Rows L2
/-- a class with its own ==, and nothing else of that kind -/
structure OwnQ (K : PySem.W.Frag) (C f : Addr) : Prop where
  eq : PySem.W.findIn K (.ref C) "__eq__" = some (some (.ref f))
  fn : PySem.W.isFn K (.ref f) = true
  ne : PySem.W.findIn K (.ref C) "__ne__" = some (some (.builtin "object.__ne__"))
  obj : PySem.W.mroIn K C (.type "object") = some true
  li : PySem.W.mroIn K C (.type "list") = some false
  tu : PySem.W.mroIn K C (.type "tuple") = some false
  it : PySem.W.mroIn K C (.type "int") = some false
  bo : PySem.W.mroIn K C (.type "bool") = some false
  st : PySem.W.mroIn K C (.type "str") = some false
  no : PySem.W.mroIn K C (.type "NoneType") = some false
/-- a promise that gives a truth -/
def Tru (sp : Sp) (a : Addr) (y : V) (H : Hp) (Q : Bool → Hp → Prop) : Prop := sp [.ref a, y] H (fun z H' => ∃ r, z = .bl r ∧ Q r H') E0
section
variable {X : Cx} {n : Nat} {C f : Addr} {fd : FuncData} {ps : List PySem.Str} {sp : Sp} {pins : List (Addr × Obj)} {σ : L2.St} {H : Hp} {s : Shared}
theorem own_run (F : FnOk X.prog X.w X.K X.mg X.base CX0 n f fd ps sp) (hb : Binds X.K fd ps []) {A : Around} (sb : Sub X n A) (I : Inv X pins σ H s) {a : Addr} {y : V} {v : Value} (ry : RelV y v) {Q : Bool → Hp → Prop} (q : Tru sp a y H Q) :
    wpAny (model X.prog X.w) A (call (.ref f) [.ref a, v]) (fun r s' => ∃ z H', r = .bool z ∧ Inv X pins σ H' s' ∧ Q z H') X.xe s := by
  have e0 : Env0 X.prog X.w X.K X.mg X.base A X.stack s H := by
    have e := I.env0
    exact ⟨by rw [sb.fr]; exact e.frames, e.mod, e.bs, e.bsz, e.funs, e.frf, e.hok, e.bare⟩
  have hl := F.len _ _ _ _ q
  have rv : Vals [V.ref a, y] [Value.ref a, v] := .cons rfl (.cons ry .nil)
  refine wpAny_call (codeAny_mono (F.run A X.stack s H ⟨[.ref a, v], []⟩ [.ref a, v] [.ref a, y] _ E0 sb.room e0 (by
    have := hb s [.ref a, v] I.kIn (by simpa using hl)
    simpa using this) rv q) fun r s' hq => ?_)
  cases r with
  | error e => exact hq.elim
  | ok fl =>
    cases fl with
    | ret w =>
      obtain ⟨z, H', I', rz, t, rfl, k⟩ := I.after hq
      cases rz
      exact ⟨t, H', rfl, I', k⟩
    | next => exact False.elim hq
    | brk => exact False.elim hq
    | cont => exact False.elim hq
def rEqO (K : PySem.W.Frag) (C : Addr) (sp : Sp) (neg : Bool) : R2 := fun x y H Q => ∃ (a dx : Addr) (fs : List (PySem.Str × V)) (t : Value), x = .ref a ∧ H a = some (.ins C dx fs) ∧ TyX K H y t ∧ PySem.W.notFirst K C t = true ∧ Tru sp a y H fun r H' => Q (.bl (if neg then !r else r)) H'
theorem rc_own (T : OwnQ X.K C f) (F : FnOk X.prog X.w X.K X.mg X.base CX0 n f fd ps sp) (hb : Binds X.K fd ps []) {A : Around} (sb : Sub X n A) (I : Inv X pins σ H s) {a dx : Addr} {fs : List (PySem.Str × V)} {y : V} {v t : Value} (ha : H a = some (.ins C dx fs)) (ry : RelV y v) (ty : TyX X.K H y t) (nf : PySem.W.notFirst X.K C t = true) {Q : Bool → Hp → Prop} (q : Tru sp a y H Q) :
    wpAny (model X.prog X.w) A (richCompare .Eq (.ref a) v) (fun r s' => ∃ z H', r = .bool z ∧ Inv X pins σ H' s' ∧ Q z H') X.xe s := by
  obtain ⟨mA, om, _⟩ := ins_get I.hok ha
  obtain ⟨od, J, _⟩ := om.look
  obtain ⟨P, Z, p, _⟩ := kit_of I ry ty
  obtain ⟨m, hF⟩ := I.fr
  refine PySem.W.cmp_K (op := .Eq) sb.room.units0 hF I.ok.mod.kin J (Z.ty _ _ I.kIn p) nf T.eq T.fn (wpAny_mono (own_run F hb sb I ry q) (fun r s' z => ?_) fun _ _ z => z)
  obtain ⟨t, H', rfl, k⟩ := z
  exact ⟨t, H', rfl, k⟩
theorem op_eqO (T : OwnQ X.K C f) (F : FnOk X.prog X.w X.K X.mg X.base CX0 n f fd ps sp) (hb : Binds X.K fd ps []) (hr : Room n X.A) : OpR X (compareOp .Eq) (rEqO X.K C sp false) := by
  intro pins s σ H x y v u Q I rx ry h
  obtain ⟨a, dx, fs, t, rfl, ha, ty, nf, q⟩ := h
  cases rx
  refine (show wpAny (model X.prog X.w) X.A (richCompare .Eq (.ref a) u) _ _ s from wpAny_mono (rc_own T F hb ⟨hr, rfl⟩ I ha ry ty nf q) (fun r s' z => ?_) fun _ _ z => z)
  obtain ⟨t, H', rfl, I', k⟩ := z
  exact ⟨.bl t, H', I', rfl, k⟩
theorem op_neO (T : OwnQ X.K C f) (F : FnOk X.prog X.w X.K X.mg X.base CX0 n f fd ps sp) (hb : Binds X.K fd ps []) (hr : Room (n + 1) X.A) : OpR X (compareOp .NotEq) (rEqO X.K C sp true) := by
  intro pins s σ H x y v u Q I rx ry h
  obtain ⟨a, dx, fs, t, rfl, ha, ty, nf, q⟩ := h
  cases rx
  obtain ⟨mA, om, _⟩ := ins_get I.hok ha
  obtain ⟨od, J, _⟩ := om.look
  obtain ⟨P, Z, p, _⟩ := kit_of I ry ty
  have hu : X.A.units + 1 < cLine := hr.in1.units0
  refine (show wpAny (model X.prog X.w) X.A (richCompare .NotEq (.ref a) u) _ _ s from SW.rc_ne hu I.kIn J (Z.ty _ _ I.kIn p) nf T.ne T.eq T.fn T.obj (wpAny_mono (own_run F hb ⟨hr.in1, rfl⟩ I ry q) (fun r s' z => ?_) fun _ _ z => z))
  obtain ⟨t, H', rfl, I', k⟩ := z
  exact ⟨t, rfl, .bl (!t), H', I', rfl, k⟩
/-- b in [a], both of the class, not the same -/
def rInO (K : PySem.W.Frag) (C : Addr) (sp : Sp) : R2 := fun x y H Q => ∃ (a b l dx : Addr) (fs : List (PySem.Str × V)) (t : Value), x = .ref b ∧ y = .ref l ∧ b ≠ a ∧ H l = some (.lst [.ref a]) ∧ H a = some (.ins C dx fs) ∧ TyX K H x t ∧ PySem.W.notFirst K C t = true ∧ Tru sp a x H fun r H' => H' l = some (.lst [.ref a]) ∧ Q (.bl r) H'
theorem op_inO (T : OwnQ X.K C f) (F : FnOk X.prog X.w X.K X.mg X.base CX0 n f fd ps sp) (hb : Binds X.K fd ps []) (hr : Room (n + 1) X.A) : OpR X (compareOp .In) (rInO X.K C sp) := by
  intro pins s σ H x y v u Q I rx ry h
  obtain ⟨a, b, l, dx, fs, t, rfl, rfl, ne, hl, ha, ty, nf, q⟩ := h
  cases rx
  cases ry
  obtain ⟨_, its, n0, rv, hl1⟩ := (show ObjOk X.prog X.w H s.heap l (.lst [.ref a]) from I.hok l _ hl)
  obtain ⟨u1, e1, r1⟩ := vals1 rv
  subst e1
  cases r1
  refine SW.in_one (y := .ref a) rfl hl1 (GQ.eqBool_refG (Ne.symm ne) (wpAny_mono (rc_own T F hb ⟨hr.in1, rfl⟩ I ha (show RelV (.ref b) (.ref b) from rfl) ty nf q) (fun r s' z => ?_) fun _ _ z => z))
  obtain ⟨t, H', rfl, I', hl', k⟩ := z
  obtain ⟨_, its', n1, rv', hl2⟩ := (show ObjOk X.prog X.w H' s'.heap l (.lst [.ref a]) from I'.hok l _ hl')
  obtain ⟨u2, e2, _⟩ := vals1 rv'
  subst e2
  exact ⟨t, rfl, ⟨_, _, _, _, rfl, hl2⟩, .bl t, H', I', rfl, k⟩
/-- a thing of a built-in type -/
inductive Alien (H : Hp) : V → Prop where
  | non : Alien H .non
  | bl (b : Bool) : Alien H (.bl b)
  | int (i : Int) : Alien H (.int i)
  | str (z : PySem.Str) : Alien H (.str z)
  | lst {p : Addr} {xs : List V} (e : H p = some (.lst xs)) : Alien H (.ref p)
  | tup {p : Addr} {xs : List V} (e : H p = some (.tup xs)) : Alien H (.ref p)
theorem Alien.ty {K : PySem.W.Frag} {H : Hp} {C : Addr} {z : V} (h : Alien H z) : ∃ t, TyX K H z t ∧ PySem.W.notFirst K C t = true := by
  have no : ∀ T l, fastBuiltinMro T = some l → l.contains (Value.ref C) = false → PySem.W.notFirst K C (.type T) = true := fun T l e c => by
    have : PySem.W.subIn K (.type T) (.ref C) = some false := by
      show (fastBuiltinMro T).map (·.contains (.ref C)) = some false
      rw [e, Option.map_some, c]
    unfold PySem.W.notFirst
    rw [this]
    simp
  cases h with
  | non => exact ⟨_, .base .non, no "NoneType" [.type "NoneType", .type "object"] (by decide +kernel) (by simp)⟩
  | bl b => exact ⟨_, .base (.bl b), no "bool" [.type "bool", .type "int", .type "object"] (by decide +kernel) (by simp)⟩
  | int i => exact ⟨_, .base (.int i), no "int" [.type "int", .type "object"] (by decide +kernel) (by simp)⟩
  | str z => exact ⟨_, .base (.str z), no "str" [.type "str", .type "object"] (by decide +kernel) (by simp)⟩
  | lst e => exact ⟨_, .base (.lst e), no "list" [.type "list", .type "object"] (by decide +kernel) (by simp)⟩
  | tup e => exact ⟨_, .base (.tup e), no "tuple" [.type "tuple", .type "object"] (by decide +kernel) (by simp)⟩
theorem eq_alien (T : OwnQ X.K C f) (F : FnOk X.prog X.w X.K X.mg X.base CX0 n f fd ps sp) (hb : Binds X.K fd ps []) {A : Around} (sb : Sub X n A) (I : Inv X pins σ H s) {a dx : Addr} {fs : List (PySem.Str × V)} {z : V} {v : Value} (ha : H a = some (.ins C dx fs)) (rz : RelV z v) (al : Alien H z) {Q : Bool → Hp → Prop} (q : Tru sp a z H Q) :
    wpAny (model X.prog X.w) A (eqBool v (.ref a)) (fun r s' => ∃ H', Inv X pins σ H' s' ∧ Q r H') X.xe s := by
  obtain ⟨mA, om, _⟩ := ins_get I.hok ha
  obtain ⟨od, J, _⟩ := om.look
  have run := own_run F hb sb I rz q
  have hu := sb.room.units0
  have back : ∀ {T' : String}, s.TypeIs v T' → PySem.W.mroIn X.K C (.type T') = some false → wpAny (model X.prog X.w) A (tryCompare v "__eq__" (.ref a)) (fun r s' => r = none ∧ s' = s) X.xe s →
      wpAny (model X.prog X.w) A (richCompare .Eq v (.ref a)) (fun w s' => ∃ r H', w = .bool r ∧ Inv X pins σ H' s' ∧ Q r H') X.xe s := fun hT hm no =>
    SW.rc_back hu I.kIn J hT hm T.eq T.fn no (wpAny_mono run (fun w s' k => by
      obtain ⟨r, H', rfl, I', k⟩ := k
      exact ⟨r, rfl, r, H', rfl, I', k⟩) fun _ _ k => k)
  have flat : (v == Value.ref a) = false → (∀ bits tok, v ≠ .float bits tok) → wpAny (model X.prog X.w) A (richCompare .Eq v (.ref a)) (fun w s' => ∃ r H', w = .bool r ∧ Inv X pins σ H' s' ∧ Q r H') X.xe s →
      wpAny (model X.prog X.w) A (eqBool v (.ref a)) (fun r s' => ∃ H', Inv X pins σ H' s' ∧ Q r H') X.xe s := fun ne _ h => by
    unfold eqBool
    refine wpAny_holding (wpAny_ite_split (fun k => absurd k (by rw [ne]; simp)) fun _ => ?_)
    have go : wpAny (model X.prog X.w) A (do let r ← richCompare .Eq v (.ref a); truthOfDropped r) (fun r s' => ∃ H', Inv X pins σ H' s' ∧ Q r H') X.xe s := by
      refine wpAny_bind (wpAny_mono h (fun w s' k => ?_) fun _ _ k => k)
      obtain ⟨r, H', rfl, I', k⟩ := k
      exact wpAny_truthy_bool ⟨H', I', k⟩
    cases v <;> exact go
  cases al with
  | non =>
    cases rz
    exact flat rfl (fun _ _ k => nomatch k) (back rfl T.no (SW.no_none J.at_))
  | bl b =>
    cases rz
    exact flat rfl (fun _ _ k => nomatch k) (back rfl T.bo (SW.no_bool J.at_))
  | int i =>
    obtain ⟨t, rfl⟩ := rz
    exact flat rfl (fun _ _ k => nomatch k) (back rfl T.it (SW.no_int J.at_))
  | str i =>
    obtain ⟨t, rfl⟩ := rz
    exact flat rfl (fun _ _ k => nomatch k) (back rfl T.st (SW.no_str J.at_))
  | @lst p xs e =>
    cases rz
    obtain ⟨_, its, n0, _, hl⟩ := (show ObjOk X.prog X.w H s.heap p (.lst xs) from I.hok p _ e)
    have ne : p ≠ a := fun k => by
      rw [k, ha] at e
      cases e
    exact flat (by simpa using ne) (fun _ _ k => nomatch k) (back ⟨_, hl, rfl⟩ T.li (SW.no_list hl I.kIn J T.li))
  | @tup p xs e =>
    cases rz
    obtain ⟨_, its, _, o, h1, h2, n0, h3⟩ := (show ObjOk X.prog X.w H s.heap p (.tup xs) from I.hok p _ e)
    have ne : p ≠ a := fun k => by
      rw [k, ha] at e
      cases e
    obtain ⟨oc, od', dt, sl⟩ := o
    simp only at h2 h3
    subst h2 h3
    exact flat (by simpa using ne) (fun _ _ k => nomatch k) (back ⟨_, h1, rfl⟩ T.tu (SW.no_tup h1 I.kIn J T.tu))
/-- a in [z], z of a built-in type -/
def rInB (C : Addr) (sp : Sp) : R2 := fun x y H Q => ∃ (a l dx : Addr) (fs : List (PySem.Str × V)) (z : V), x = .ref a ∧ y = .ref l ∧ H l = some (.lst [z]) ∧ H a = some (.ins C dx fs) ∧ Alien H z ∧ Tru sp a z H fun r H' => H' l = some (.lst [z]) ∧ Q (.bl r) H'
theorem op_inB (T : OwnQ X.K C f) (F : FnOk X.prog X.w X.K X.mg X.base CX0 n f fd ps sp) (hb : Binds X.K fd ps []) (hr : Room (n + 1) X.A) : OpR X (compareOp .In) (rInB C sp) := by
  intro pins s σ H x y v u Q I rx ry h
  obtain ⟨a, l, dx, fs, z, rfl, rfl, hl, ha, al, q⟩ := h
  cases rx
  cases ry
  obtain ⟨_, its, n0, rv, hl1⟩ := (show ObjOk X.prog X.w H s.heap l (.lst [z]) from I.hok l _ hl)
  obtain ⟨u1, e1, r1⟩ := vals1 rv
  subst e1
  refine SW.in_one (y := u1) rfl hl1 (wpAny_mono (eq_alien T F hb ⟨hr.in1, rfl⟩ I ha r1 al q) (fun r s' k => ?_) fun _ _ k => k)
  obtain ⟨H', I', hl', k⟩ := k
  obtain ⟨_, its', n1, rv', hl2⟩ := (show ObjOk X.prog X.w H' s'.heap l (.lst [z]) from I'.hok l _ hl')
  obtain ⟨u2, e2, _⟩ := vals1 rv'
  subst e2
  exact ⟨⟨_, _, _, _, rfl, hl2⟩, .bl r, H', I', rfl, k⟩
end
end SH

set_option Elab.async false
set_option linter.all false
set_option maxRecDepth 100000
/-! repr of plain data; defs that ask for it, which are called where no such text is under way. -/
namespace SH
open PySem PySem.Spec PyProof.Rows L2
/-- a def's promise, where no guard stands around the call -/
structure FnG (P : Program) (w : World) (K : PySem.W.Frag) (mg : PySem.Str → Option Value) (base : Heap) (k : Nat) (f : Addr) (fd : FuncData) (ps : List PySem.Str) (sp : Sp) : Prop where
  len : ∀ vs H Q E, sp vs H Q E → vs.length = ps.length
  run : ∀ (A : Around) (outer : List Env) (s : Shared) (H : Hp) (args : Args) (us : List Value) (vs : List V) (Q : VK) (E : XK), A.guards = some [] → Room k A → Env0 P w K mg base A outer s H →
    BindsTo s fd args (ps.zip us) → Vals vs us → sp vs H Q E → codeAny (model P w) A (.call (.ref f) args) (CR CX0 outer P w H s Q E) s
section
variable {P : Program} {w : World} {K : PySem.W.Frag} {mg : PySem.Str → Option Value} {base : Heap}
theorem FnG.of {k : Nat} {f : Addr} {fd : FuncData} {ps : List PySem.Str} {sp : Sp} (F : FnOk P w K mg base CX0 k f fd ps sp) : FnG P w K mg base k f fd ps sp :=
  ⟨F.len, fun A outer s H args us vs Q E _ => F.run A outer s H args us vs Q E⟩
theorem FnG.mono {j k : Nat} {f : Addr} {fd : FuncData} {ps : List PySem.Str} {sp : Sp} (F : FnG P w K mg base j f fd ps sp) (h : j ≤ k) : FnG P w K mg base k f fd ps sp :=
  ⟨F.len, fun A outer s H args us vs Q E g r => F.run A outer s H args us vs Q E g (r.mono h)⟩
/-- a def of the text, by its body -/
theorem okG {x qual : PySem.Str} {st : Stmt} {f : Addr} {fd : FuncData} {N ps : List PySem.Str} {k : Nat} {sp : Sp} (F : Fun K x qual st f fd) (S : FnScope N ps (defScope st)) (len : ∀ vs H Q E, sp vs H Q E → vs.length = ps.length)
    (body : ∀ (cdv : Value) (A : Around) (outer : List Env) (s : Shared) (H : Hp) (vs : List V) (Q : VK) (E : XK), (A.deeper (envOfC qual (defScope st) s.heap.objs.size f cdv)).guards = some [] → Room k (A.deeper (envOfC qual (defScope st) s.heap.objs.size f cdv)) → sp vs H Q E →
      ∃ t, PSs (cxOf CX0 P w K mg base N qual (defScope st) f cdv A outer s H E).nox (defBody st) t ∧ t { nx := fun _ H' => Q .non H', rt := Q } (start N vs) H) : FnG P w K mg base (k + 1) f fd ps sp := by
  obtain ⟨oc, od, kV, doc, pm, an, cdv, ct, osl, rfl, look, code⟩ := F.ex
  refine ⟨len, ?_⟩
  intro A outer s H args us vs Q E gd room env bind rel want
  have many := len _ _ _ _ want
  have still : ∀ b o, base.get? b = some o → s.heap.get? b = some o := fun b o e => (env.bs b o e).1
  have inK := env.mod.kin.keeps still
  refine codeAny_call_function room.depth (inK _ _ look) rfl S.co S.gen rfl (PySem.W.codeRec_of inK code) (bind _ _ _ _ ?_)
  refine wpAny_newFunctionEnv_cells S.kind ?_ fun env' he s1 made => ?_
  · rintro ⟨n, v⟩ hy
    cases S.par n (List.of_mem_zip hy).1 with
    | inl q => exact .inl q
    | inr q => exact .inr ⟨q, PySem.W.cellsFrom_some _ _ _ (.inl q)⟩
  subst he
  refine ⟨(env.mod.nolimit.keeps still).keeps made.toInCall.keep, codeAny_func ?_⟩
  obtain ⟨t, ht, hq⟩ := body cdv A outer s H vs Q E gd (room.deeper _) want
  have begun : Inv (cxOf CX0 P w K mg base N qual (defScope st) f cdv A outer s H E) [] (start N vs) H s1 := inv_start S room.hd env many rel made
  refine wpAny_mono (ht.nox.run [] s1 _ H _ begun hq) (fun fl s' out => ?_) fun _ _ out => out
  cases fl with
  | ret u => exact let ⟨v, _, H', J, rv, q⟩ := out; ⟨v, H', J.os, J.bare, J.base, J.hok, rv, q⟩
  | next => exact let ⟨_, H', J, q⟩ := out; ⟨V.non, H', J.os, J.bare, J.base, J.hok, rfl, q⟩
  | brk => exact (let ⟨_, _, _, q⟩ := out; False.elim q)
  | cont => exact (let ⟨_, _, _, q⟩ := out; False.elim q)
end
section
variable {X : Cx}
/-- f(..) of such a def -/
theorem pe_callG {k : Nat} {f : Addr} {fd : FuncData} {ps : List PySem.Str} {sp : Sp} {x : PySem.Str} {p pos : Pos} {e : Expr} {es : List Expr} {t : TA} (F : FnG X.prog X.w X.K X.mg X.base k f fd ps sp) (gd : X.A.guards = some []) (hr : Room k X.A) (hg : Gl X x) (hm : X.mg x = some (.ref f)) (hk : PySem.W.keepIn X.K (.ref f) = true) (hb : Binds X.K fd ps [])
    (ha : PA X (e :: es) t) (hdb : (x == ("__debug__" : PySem.Str)) = false := by decide) (he : starEach (e :: es) X.env = (false, eval e X.env) :: starEach es X.env := by rfl) (hpl : (backTo pos (starEach es X.env)).any (·.1) = false := by rfl) :
    PE X (.Call (.Name x p) (e :: es) [] pos) (tCall sp [] E0 t) := by
  constructor
  intro pins s σ H Q I h
  refine wpAny_Call_Name_kw (ld_glob I hg hm ?_ hdb)
  refine PySem.W.callWith_K (h₀ := X.base) I.ok.mod.kin hk (thn (ha.run pos pins s σ H _ I h) ?_) he hpl
  rintro us s1 ⟨vs, H1, I1, r, q⟩
  rw [List.append_nil] at q
  refine ⟨I1.kIn, wpAny_call (codeAny_mono (F.run X.A X.stack s1 H1 ⟨us, []⟩ us vs Q E0 gd hr I1.env0 ?_ r q) fun r' s' hq => ?_)⟩
  · have := hb s1 us I1.kIn (by rw [List.append_nil, ← r.length]; exact F.len _ _ _ _ q)
    rwa [List.append_nil] at this
  · cases r' with
    | error e => exact False.elim hq
    | ok fl =>
      cases fl with
      | ret u => exact I1.after hq
      | next => exact False.elim hq
      | brk => exact False.elim hq
      | cont => exact False.elim hq
/-- repr(x), x a list or tuple of plain data -/
def rRepr (K : PySem.W.Frag) : List V → Hp → VK → Prop := fun xs H Q => ∃ (a : Addr) (d : PyData), xs = [.ref a] ∧ Dp K H (.ref a) d ∧ d.showable = true ∧ d.hasDict = false ∧ d.depth ≤ 60 ∧ d.shown.length ≤ sizeLine ∧ Q (.str d.shown) H
theorem call_reprD (gd : X.A.guards = some []) (hu : X.A.units + 64 < cLine) : CallR X (.builtin "repr") (rRepr X.K) := by
  intro pins s σ H xs us Q I r h
  obtain ⟨a, d, rfl, dp, sh, nd, de, sz, q⟩ := h
  obtain ⟨u, rfl, ru⟩ := vals1 r
  cases ru
  obtain ⟨as, rd⟩ := Dp.reads I d _ _ dp rfl
  refine repr_of_reads' rd sh (fun z => by rw [nd] at z; cases z) gd (by omega) (fun _ _ e => e) (fun h' t tk kp => ?_) sz
  exact ⟨.str d.shown, H, I.kept (t' := tk) kp, ⟨_, rfl⟩, q⟩
theorem call_reprK (K : PySem.W.Frag) (gd : X.A.guards = some []) (hu : X.A.units + 64 < cLine) (hK : X.K = K := by rfl) : CallR X (.builtin "repr") (rRepr K) := hK ▸ call_reprD gd hu
end
/-! ### the beginning -/
/-- the heap in which the script alone is known, and what comes of the law's end -/
theorem law_begin {P : Program} {w : World} {K : PySem.W.Frag} {mg mb : PySem.Str → Option Value} {a : Addr} {s₁ : Shared} {vs : List Value} {ns : List Int} (inK : K.In s₁.heap) (gl : s₁.heap.Ns mainGlobals mg) (bl : s₁.heap.Ns builtinsNs mb) (boot : ∀ x : PySem.Str, x ≠ "__name__" → mb x = bootBuiltins x) (nl : s₁.heap.NoLimit) (gens : s₁.gens = #[])
    (at_ : s₁.heap.get? a = some { cls := .type "list", data := .seq vs.toArray }) (hin : IntsAre vs ns) (few : ns.length ≤ sizeLine) :
    ∃ (H : Hp) (base : Heap), SqL K H a (ns.map V.int) ∧ Env0 P w K mg base callerA [] s₁ H ∧ K.In base ∧ base.Ns mainGlobals mg ∧ ∀ (r : Result) (s' : Shared), CR CX0 [] P w H s₁ (fun v _ => v = .bl true) E0 r s' → r = .ok (.ret (.bool true)) ∧ OldK s₁.heap s'.heap ∧ s'.os = s₁.os ∧ AllBare s'.gens := by
  have vals := vals_ints hin
  have many := hin.length
  -- any heap that knows no more than the script, as it lies there
  have any : ∀ H : Hp, (∀ b u, H b = some u → b = a ∧ K.lookup a = none ∧ ∃ o xs, u = .frz o xs) → SqL K H a (ns.map V.int) → HOk P w H s₁.heap →
      ∃ (H : Hp) (base : Heap), SqL K H a (ns.map V.int) ∧ Env0 P w K mg base callerA [] s₁ H ∧ K.In base ∧ base.Ns mainGlobals mg ∧ ∀ (r : Result) (s' : Shared), CR CX0 [] P w H s₁ (fun v _ => v = .bl true) E0 r s' → r = .ok (.ret (.bool true)) ∧ OldK s₁.heap s'.heap ∧ s'.os = s₁.os ∧ AllBare s'.gens := by
    intro H only sq ok
    have clear : ∀ {b : Addr} {o : Obj}, s₁.heap.get? b = some o → (b = a → K.lookup a = none → False) → (hidT s₁.heap H).get? b = some o := fun {b o} e no => by
      refine hidT_get e ?_
      cases q : H b with
      | none => rfl
      | some u => exact (no (only b u q).1 (only b u q).2.1).elim
    have ns' : ∀ {b : Addr} {m : PySem.Str → Option Value}, s₁.heap.Ns b m → (hidT s₁.heap H).Ns b m := by
      rintro b m ⟨o, es, ep, e, d, r⟩
      refine ⟨o, es, ep, clear e fun z _ => ?_, d, r⟩
      subst z
      rw [at_] at e
      cases e
      cases (show Data.seq vs.toArray _ = Data.dict es ep from d)
    have kb : K.In (hidT s₁.heap H) := fun b o e => clear (inK b o e) fun z n => by
      subst z
      rw [n] at e
      cases e
    refine ⟨H, hidT s₁.heap H, sq, ⟨rfl, ⟨kb, ns' gl, ⟨mb, ns' bl, boot⟩, ?_⟩, fun b o e => of_hidT e, Nat.le_of_eq (hidT_size _ _), trivial, ?_, ok, .of_eq gens⟩, kb, ns' gl, ?_⟩
    · obtain ⟨mc, h1, h2⟩ := nl
      exact ⟨mc, ns' h1, h2⟩
    · intro b hb
      cases (show b ∈ ([] : List Addr) from hb)
    · intro r s' h
      cases r with
      | error e => exact False.elim h
      | ok fl =>
        cases fl with
        | next => exact False.elim h
        | brk => exact False.elim h
        | cont => exact False.elim h
        | ret u =>
          obtain ⟨v, H', os, bare, un, ok', rv, q⟩ := h
          cases (show v = .bl true from q)
          cases (show u = Value.bool true from rv)
          refine ⟨rfl, OldK.of_keep fun b o e => ?_, os, bare⟩
          cases q : H b with
          | none => exact un.keep b o e q (fun z => by cases (show b ∈ ([] : List Addr) from z)) (by simp)
          | some u =>
            obtain ⟨_, _, ob, xs, rfl⟩ := only b u q
            have e1 := (ok b _ q).1
            rw [e] at e1
            cases e1
            exact (ok' b _ (un.frzs b _ _ q)).1
  cases look : K.lookup a with
  | some o =>
    have e := inK a o look
    rw [at_] at e
    cases e
    refine any (fun _ => none) (fun b u z => by cases z) ?_ (fun b u z => by cases (show (none : Option HO) = some u from z))
    exact .inr ⟨_, vs.toArray, _, look, rfl, rfl, rfl, by rw [List.size_toArray, many]; exact few, by simpa using vals⟩
  | none =>
    refine any (fun b => if b = a then some (.frz { cls := .type "list", data := .seq vs.toArray } (.lst (ns.map V.int))) else none) ?_ (.inl (.inr ⟨{ cls := .type "list", data := .seq vs.toArray }, if_pos rfl⟩)) ?_
    · intro b u z
      by_cases hb : b = a
      · rw [if_pos hb] at z
        cases z
        exact ⟨hb, look, _, _, rfl⟩
      · rw [if_neg hb] at z
        cases z
    · intro b u z
      by_cases hb : b = a
      · have z' := (if_pos hb).symm.trans z
        cases z'
        subst hb
        exact ⟨at_, by rw [List.length_map]; exact few, vs, _, vals, at_⟩
      · cases (if_neg hb).symm.trans z
/-- the law's walk, from such a promise of it -/
theorem walk_G {l : PySem.W.OpenLaw} {k : Nat} {q : Program} {loose : List PySem.Str} {XP : (PySem.Str → Option Value) → Heap → Prop} {YP : World → Heap → Prop} {d : DefRec} {K : Params → PySem.W.Frag} {sp : PySem.W.Frag → Sp} (most : l.most = some 63) (nodf : d.params.defaults = []) (room : Room k callerA)
    (hY : ∀ (w : World) (h : Heap), YP w h → (K w.params).In h)
    (F : ∀ (w : World) (mg : PySem.Str → Option Value) (fa : Addr) (h : Heap), (K w.params).In h → h.Ns mainGlobals mg → mg d.name = some (.ref fa) →
      ∃ fd : FuncData, (∀ (s : Shared) (u : Value), BindsTo s fd ⟨[u], []⟩ [("_law_script", u)]) ∧ ∀ base : Heap, (K w.params).In base → base.Ns mainGlobals mg → FnG l.prog w (K w.params) mg base k fa fd ["_law_script"] (sp (K w.params)))
    (hsp : ∀ (K : PySem.W.Frag) (H : Hp) (a : Addr) (ns : List Int), ns.length ≤ 63 → SqL K H a (ns.map V.int) → sp K [.ref a] H (fun v _ => v = .bl true) E0) :
    PySem.W.WalkO q loose XP YP l.row.toRowW d [] (fun f vs => PySem.call f vs) := by
  refine Att.attach_call most nodf fun w s₀ s₁ mg mb fa o pm cd doc a vs ns G Y ho hd hcd hmg hobj hints hlen hg => ?_
  obtain ⟨fd, hb, hF⟩ := F w mg fa _ (hY w _ Y) G.T.g hmg
  obtain ⟨H, base, sq, env, kb, nb, out⟩ := law_begin (P := l.prog) (w := w) (hY w _ Y) G.T.g G.T.b G.T.builtins G.T.nolimit hg hobj hints (Nat.le_trans hlen (by decide))
  exact codeAny_mono ((hF base kb nb).run callerA [] s₁ H ⟨[.ref a], []⟩ [.ref a] [.ref a] _ _ rfl room env (hb s₁ (.ref a)) (.cons rfl .nil) (hsp _ H a ns hlen sq)) out
end SH

set_option Elab.async false
set_option linter.all false
set_option maxRecDepth 100000
/-! plain data of tuples: how deep, how long their text. -/
namespace SH
open PySem L2
mutual
def onlyT : PyData → Bool
  | .none => true
  | .bool _ => true
  | .int _ => true
  | .str _ => true
  | .list _ => false
  | .tuple ds => onlyTs ds
  | .dict _ => false
def onlyTs : List PyData → Bool
  | [] => true
  | d :: ds => onlyT d && onlyTs ds
end
theorem onlyTs_mem : ∀ {ds : List PyData}, (∀ d ∈ ds, onlyT d = true) → onlyTs ds = true
  | [], _ => rfl
  | d :: ds, h => by
    show (onlyT d && onlyTs ds) = true
    rw [h d (List.mem_cons_self ..), onlyTs_mem fun e he => h e (List.mem_cons_of_mem _ he)]
    rfl
theorem mem_onlyTs : ∀ {ds : List PyData}, onlyTs ds = true → ∀ d ∈ ds, onlyT d = true
  | [], _, d, hd => by cases hd
  | e :: ds, h, d, hd => by
    have h' : (onlyT e && onlyTs ds) = true := h
    rw [Bool.and_eq_true] at h'
    rcases List.mem_cons.mp hd with rfl | hd
    · exact h'.1
    · exact mem_onlyTs h'.2 d hd
/-! such data stay where the tuples stay -/
def KpT (K : PySem.W.Frag) (H H' : Hp) : Prop := ∀ a xs, SqT K H a xs → SqT K H' a xs
mutual
theorem Dp.keep {K : PySem.W.Frag} {H H' : Hp} (h : KpT K H H') : ∀ {d : PyData} {v : V}, onlyT d = true → Dp K H v d → Dp K H' v d
  | .none, _, _, .non => .non
  | .bool _, _, _, .bl b => .bl b
  | .int _, _, _, .int i => .int i
  | .str _, _, _, .str x => .str x
  | .list _, _, o, _ => by cases o
  | .tuple ds, _, o, .tup s q => .tup (h _ _ s) (DpAll.keep h o q)
  | .dict _, _, o, _ => by cases o
theorem DpAll.keep {K : PySem.W.Frag} {H H' : Hp} (h : KpT K H H') : ∀ {ds : List PyData} {vs : List V}, onlyTs ds = true → DpAll K H vs ds → DpAll K H' vs ds
  | [], _, _, .nil => .nil
  | d :: ds, _, o, .cons a b => by
    have o' : (onlyT d && onlyTs ds) = true := o
    rw [Bool.and_eq_true] at o'
    exact .cons (Dp.keep h o'.1 a) (DpAll.keep h o'.2 b)
end
theorem Same.kpT {K : PySem.W.Frag} {H H' : Hp} (s : Same H H') : KpT K H H' := fun a xs h => by
  rcases h with (h | ⟨o, h⟩) | h
  · exact .inl (.inl (s _ _ h))
  · exact .inl (.inr ⟨o, s _ _ h⟩)
  · exact .inr h
theorem KpT.trans {K : PySem.W.Frag} {H H1 H2 : Hp} (a : KpT K H H1) (b : KpT K H1 H2) : KpT K H H2 := fun x xs h => b x xs (a x xs h)
theorem KpT.lst {K : PySem.W.Frag} {H : Hp} {l : Addr} {xs zs : List V} (h : H l = some (.lst xs)) : KpT K H (upd H l (.lst zs)) := fun a ys q => by
  rcases q with (q | ⟨o, q⟩) | q
  · exact .inl (.inl (by rw [upd_ne (fun z => by rw [z, h] at q; cases q)]; exact q))
  · exact .inl (.inr ⟨o, by rw [upd_ne (fun z => by rw [z, h] at q; cases q)]; exact q⟩)
  · exact .inr q
theorem DpAll.app {K : PySem.W.Frag} {H : Hp} : ∀ {as bs : List V} {ds es : List PyData}, DpAll K H as ds → DpAll K H bs es → DpAll K H (as ++ bs) (ds ++ es)
  | _, _, _, _, .nil, q => q
  | _, _, _, _, .cons a b, q => .cons a (DpAll.app b q)
theorem DpAll.len {K : PySem.W.Frag} {H : Hp} : ∀ {as : List V} {ds : List PyData}, DpAll K H as ds → as.length = ds.length
  | _, _, .nil => rfl
  | _, _, .cons _ b => by rw [List.length_cons, List.length_cons, DpAll.len b]
theorem DpAll.rev {K : PySem.W.Frag} {H : Hp} : ∀ {as : List V} {ds : List PyData}, DpAll K H as ds → DpAll K H as.reverse ds.reverse
  | _, _, .nil => .nil
  | _, _, .cons a b => by
    rw [List.reverse_cons, List.reverse_cons]
    exact DpAll.app (DpAll.rev b) (.cons a .nil)
/-! ### how long their text is -/
theorem piled_sum : ∀ ts : List Str, piled ts = (ts.map fun t => t.length + 2).sum
  | [] => rfl
  | t :: ts => by rw [piled_cons, piled_sum ts, List.map_cons, List.sum_cons]
theorem tuple_len (ts : List Str) : (tupleText ts).length ≤ 3 + (ts.map fun t => t.length + 2).sum := by
  unfold tupleText
  rw [strLen_append, strLen_append]
  have e1 : (((if ts.length == 1 then ",)" else ")" : String) : Str)).length ≤ 2 := by split <;> decide
  have e2 : (("(" : String) : Str).length = 1 := rfl
  cases ts with
  | nil =>
    have : (Str.join ", " ([] : List Str)).length = 0 := rfl
    omega
  | cons x r =>
    have := join_length_add (x :: r) (by simp)
    rw [piled_sum] at this
    omega
theorem textFrom_le : ∀ (ts : List Str) (k : Nat) (acc : Str), (textFrom k acc ts).length ≤ acc.length + (ts.map fun t => t.length + 2).sum
  | [], _, acc => Nat.le_refl _
  | t :: r, k, acc => by
    have h := textFrom_le r (k + 1) (acc ++ (if k > 0 then ", " else "" : String) ++ t)
    have e : (acc ++ (if k > 0 then ", " else "" : String) ++ t).length ≤ acc.length + 2 + t.length := by
      rw [strLen_append, strLen_append]
      have : (((if k > 0 then ", " else "" : String) : Str)).length ≤ 2 := by split <;> decide
      omega
    show (textFrom (k + 1) (acc ++ (if k > 0 then ", " else "" : String) ++ t) r).length ≤ _
    rw [List.map_cons, List.sum_cons]
    omega
theorem list_len (ts : List Str) : (listText ts).length ≤ 2 + (ts.map fun t => t.length + 2).sum := by
  unfold listText
  rw [strLen_append]
  have := textFrom_le ts 0 "["
  have e1 : (("[" : String) : Str).length = 1 := rfl
  have e2 : (("]" : String) : Str).length = 1 := rfl
  omega
/-- plain data of tuples, no deeper than n, with a text of at most m signs -/
structure Nice (n m : Nat) (d : PyData) : Prop where
  lay : PySem.PyData.canLay0 d = true
  dep : d.depth ≤ n
  ot : onlyT d = true
  sh : d.showable = true
  nd : d.hasDict = false
  sz : d.shown.length ≤ m
theorem Nice.up {n m n' m' : Nat} {d : PyData} (h : Nice n m d) (a : n ≤ n') (b : m ≤ m') : Nice n' m' d := ⟨h.lay, Nat.le_trans h.dep a, h.ot, h.sh, h.nd, Nat.le_trans h.sz b⟩
theorem showAll_mem : ∀ {ds : List PyData}, (∀ d ∈ ds, PyData.showable d = true) → PyData.showableAll ds = true
  | [], _ => rfl
  | d :: ds, h => by
    show (PyData.showable d && PyData.showableAll ds) = true
    rw [h d (List.mem_cons_self ..), showAll_mem fun e he => h e (List.mem_cons_of_mem _ he)]
    rfl
theorem noDict_mem : ∀ {ds : List PyData}, (∀ d ∈ ds, PyData.hasDict d = false) → PyData.hasDictAll ds = false
  | [], _ => rfl
  | d :: ds, h => by
    show (PyData.hasDict d || PyData.hasDictAll ds) = false
    rw [h d (List.mem_cons_self ..), noDict_mem fun e he => h e (List.mem_cons_of_mem _ he)]
    rfl
theorem shownAll_map : ∀ ds : List PyData, PyData.shownAll ds = ds.map PyData.shown
  | [] => rfl
  | d :: ds => by
    show PyData.shown d :: PyData.shownAll ds = _
    rw [shownAll_map ds]
    rfl
theorem lay_all (xs : List PyData) : PySem.PyData.canLayAll0 xs = xs.all PySem.PyData.canLay0 := by
  induction xs with
  | nil => rfl
  | cons x xs ih =>
    show (PySem.PyData.canLay0 x && PySem.PyData.canLayAll0 xs) = _
    rw [ih, List.all_cons]
theorem deep_all {n : Nat} : ∀ {xs : List PyData}, (∀ x ∈ xs, x.depth ≤ n) → PySem.PyData.depthAll xs ≤ n
  | [], _ => Nat.zero_le _
  | x :: xs, h => by
    show max x.depth (PySem.PyData.depthAll xs) ≤ n
    have h1 := h x (List.mem_cons_self ..)
    have h2 := deep_all fun y hy => h y (List.mem_cons_of_mem _ hy)
    omega
/-- the parts one by one: no deeper than n, their texts together -/
inductive Nices (n : Nat) : Nat → List PyData → Prop
  | nil : Nices n 0 []
  | cons {m k : Nat} {d : PyData} {ds : List PyData} : Nice n m d → Nices n k ds → Nices n (m + 2 + k) (d :: ds)
theorem Nices.mem {n k : Nat} {ds : List PyData} (h : Nices n k ds) : ∀ d ∈ ds, ∃ m, Nice n m d := by
  induction h with
  | nil => intro d hd; cases hd
  | cons a _ ih =>
    intro e he
    rcases List.mem_cons.mp he with rfl | he
    · exact ⟨_, a⟩
    · exact ih e he
theorem Nices.sum {n k : Nat} {ds : List PyData} (h : Nices n k ds) : ((PyData.shownAll ds).map fun t => t.length + 2).sum ≤ k := by
  induction h with
  | nil => exact Nat.le_refl _
  | @cons m k d ds a _ ih =>
    show ((PyData.shown d :: PyData.shownAll ds).map fun t => t.length + 2).sum ≤ _
    rw [List.map_cons, List.sum_cons]
    have := a.sz
    omega
theorem Nices.app {n k l : Nat} {ds es : List PyData} (a : Nices n k ds) (b : Nices n l es) : Nices n (k + l) (ds ++ es) := by
  induction a with
  | nil => rw [Nat.zero_add]; exact b
  | @cons m k d ds h _ ih =>
    have := Nices.cons h ih
    rw [show m + 2 + k + l = m + 2 + (k + l) by omega]
    exact this
theorem Nices.all {n m : Nat} : ∀ {ds : List PyData}, (∀ d ∈ ds, Nice n m d) → Nices n (ds.length * (m + 2)) ds
  | [], _ => by rw [List.length_nil, Nat.zero_mul]; exact .nil
  | d :: ds, h => by
    have := Nices.cons (h d (List.mem_cons_self ..)) (Nices.all fun e he => h e (List.mem_cons_of_mem _ he))
    rw [List.length_cons, Nat.succ_mul, Nat.add_comm]
    exact this
theorem nice_tup {n k : Nat} {ds : List PyData} (h : Nices n k ds) : Nice (n + 1) (3 + k) (.tuple ds) := by
  have me := h.mem
  refine ⟨?_, ?_, ?_, ?_, ?_, ?_⟩
  · show PySem.PyData.canLayAll0 ds = true
    rw [lay_all, List.all_eq_true]
    exact fun d hd => (let ⟨_, z⟩ := me d hd; z.lay)
  · show PySem.PyData.depthAll ds + 1 ≤ n + 1
    have := deep_all (n := n) fun d hd => (let ⟨_, z⟩ := me d hd; z.dep)
    omega
  · exact onlyTs_mem fun d hd => (let ⟨_, z⟩ := me d hd; z.ot)
  · exact showAll_mem fun d hd => (let ⟨_, z⟩ := me d hd; z.sh)
  · exact noDict_mem fun d hd => (let ⟨_, z⟩ := me d hd; z.nd)
  · have := tuple_len (PyData.shownAll ds)
    have := h.sum
    show (tupleText (PyData.shownAll ds)).length ≤ _
    omega
/-- a list of such data -/
structure NiceL (ds : List PyData) : Prop where
  lay : PySem.PyData.canLay0 (.list ds) = true
  dep : (PyData.list ds).depth ≤ 40
  ot : onlyTs ds = true
  sh : (PyData.list ds).showable = true
  nd : (PyData.list ds).hasDict = false
  sz : (PyData.list ds).shown.length ≤ sizeLine
theorem niceL {n k : Nat} {ds : List PyData} (h : Nices n k ds) (hn : n < 40) (hk : k + 2 ≤ sizeLine) : NiceL ds := by
  have me := h.mem
  refine ⟨?_, ?_, ?_, ?_, ?_, ?_⟩
  · show PySem.PyData.canLayAll0 ds = true
    rw [lay_all, List.all_eq_true]
    exact fun d hd => (let ⟨_, z⟩ := me d hd; z.lay)
  · show PySem.PyData.depthAll ds + 1 ≤ 40
    have := deep_all (n := n) fun d hd => (let ⟨_, z⟩ := me d hd; z.dep)
    omega
  · exact onlyTs_mem fun d hd => (let ⟨_, z⟩ := me d hd; z.ot)
  · exact showAll_mem fun d hd => (let ⟨_, z⟩ := me d hd; z.sh)
  · exact noDict_mem fun d hd => (let ⟨_, z⟩ := me d hd; z.nd)
  · have := list_len (PyData.shownAll ds)
    have := h.sum
    show (listText (PyData.shownAll ds)).length ≤ _
    omega
theorem NiceL.shaped {ds : List PyData} (h : NiceL ds) : SeqAt.shaped (.list ds) = true := by
  unfold SeqAt.shaped
  rw [h.lay, decide_eq_true (Nat.le_trans h.dep (by decide))]
  rfl
theorem NiceL.refl {ds : List PyData} (h : NiceL ds) : PyData.eqv (.list ds) (.list ds) = true := SeqAt.eqv_refl _ h.lay
theorem nice_int {n : Nat} {i : Int} (h : i.natAbs < 2 ^ 100) : Nice n 101 (.int i) := by
  have lg : i.natAbs.log2 < 1920 := by
    by_cases z : i.natAbs = 0
    · rw [z]; decide
    · have := (Nat.log2_lt z).mpr h
      omega
  refine ⟨rfl, Nat.zero_le _, rfl, decide_eq_true lg, rfl, ?_⟩
  show (Str.ofString (toString i)).length ≤ 101
  have e := int_text_length_le (a := i) (k := 100) (by decide) (by
    by_cases z : i.natAbs = 0
    · rw [z]; decide
    · exact (Nat.log2_lt z).mpr h)
  rw [ofString_length]; exact e
theorem nice_lit {n m : Nat} {s : Str} (h : PySem.PyData.strOk s = true) (k : (reprText s).length ≤ m) : Nice n m (.str s) := ⟨h, Nat.zero_le _, rfl, rfl, rfl, k⟩
end SH

set_option Elab.async false
set_option linter.all false
set_option maxRecDepth 100000
/-! lists held against []. -/
namespace SH
open PySem PySem.Spec PyProof.Rows L2
def rEqNil (K : PySem.W.Frag) : R2 := fun x y H Q => ∃ (a b : Addr) (xs : List V), x = .ref a ∧ y = .ref b ∧ SqL K H a xs ∧ SqL K H b [] ∧ Q (.bl xs.isEmpty) H
def rNeNil (K : PySem.W.Frag) : R2 := fun x y H Q => ∃ (a b : Addr) (xs : List V), x = .ref a ∧ y = .ref b ∧ SqL K H a xs ∧ SqL K H b [] ∧ Q (.bl (!xs.isEmpty)) H
section
variable {X : Cx}
theorem op_eqNil (hu : X.A.units + 64 < cLine) : OpR X (compareOp .Eq) (rEqNil X.K) := by
  intro pins s σ H x y v u Q I rx ry h
  obtain ⟨a, b, xs, rfl, rfl, ha, hb, q⟩ := h
  obtain ⟨its, rv, hl, _⟩ := I.list ha
  obtain ⟨its2, rv2, hl2, _⟩ := I.list hb
  obtain rfl : v = Value.ref a := rx
  obtain rfl : u = Value.ref b := ry
  cases rv2
  cases rv with
  | nil => exact SeqAt.eq_listAt (e := fun _ => true) hl.isList hl2.isList rfl (by omega) (fun j h1 => absurd h1 (Nat.not_lt_zero _)) ⟨.bl true, H, I, rfl, q⟩
  | cons _ _ => exact SeqAt.eq_list_lengthsAt hl.isList hl2.isList (by simp) (by omega) ⟨.bl false, H, I, rfl, q⟩
theorem op_neNil (hu : X.A.units + 64 < cLine) : OpR X (compareOp .NotEq) (rNeNil X.K) := by
  intro pins s σ H x y v u Q I rx ry h
  obtain ⟨a, b, xs, rfl, rfl, ha, hb, q⟩ := h
  obtain ⟨its, rv, hl, _⟩ := I.list ha
  obtain ⟨its2, rv2, hl2, _⟩ := I.list hb
  obtain rfl : v = Value.ref a := rx
  obtain rfl : u = Value.ref b := ry
  cases rv2
  cases rv with
  | nil => exact SeqAt.RcNeAt.lists (e := fun _ => true) hl.isList hl2.isList rfl (by omega) (fun j h1 => absurd h1 (Nat.not_lt_zero _)) _ _ _ _ ⟨.bl false, H, I, rfl, q⟩
  | cons _ _ => exact SeqAt.RcNeAt.lists_lengths hl.isList hl2.isList (by simp) (by omega) _ _ _ _ ⟨.bl true, H, I, rfl, q⟩
end
end SH

set_option Elab.async false
set_option linter.all false
set_option maxRecDepth 100000
namespace SH
open PySem L2
abbrev sKind : Stmt := topS 16
abbrev sParts : Stmt := topS 17
theorem scKind : FnScope ["_law_sign"] ["_law_sign"] (defScope sKind) := ⟨rfl, rfl, rfl, by decide +kernel, rfl, by decide +kernel, by decide +kernel⟩
theorem scParts : FnScope ["_law_text", "_law_found", "_law_sign", "_law_kind_here", "_law_part"] ["_law_text"] (defScope sParts) := ⟨rfl, rfl, rfl, by decide +kernel, rfl, by decide +kernel, by decide +kernel⟩
/-- the kind of a sign -/
def spKind : Sp := fun vs H Q _ => ∃ c, vs = [.str (uno c)] ∧ ∀ H', Same H H' → Q (.int (kdC c)) H'
theorem lets_are (c : Nat) : c ∈ ("abcdefghijklmnopqrstuvwxyz" : Str).cps.toList ↔ 97 ≤ c ∧ c ≤ 122 := by
  have e : ("abcdefghijklmnopqrstuvwxyz" : Str).cps.toList = (List.range 26).map (97 + ·) := by decide +kernel
  rw [e, List.mem_map]
  constructor
  · rintro ⟨a, ha, rfl⟩
    have := List.mem_range.mp ha
    omega
  · intro h
    exact ⟨c - 97, List.mem_range.mpr (by omega), by omega⟩
theorem digs_are (c : Nat) : c ∈ ("0123456789" : Str).cps.toList ↔ 48 ≤ c ∧ c ≤ 57 := by
  have e : ("0123456789" : Str).cps.toList = (List.range 10).map (48 + ·) := by decide +kernel
  rw [e, List.mem_map]
  constructor
  · rintro ⟨a, ha, rfl⟩
    have := List.mem_range.mp ha
    omega
  · intro h
    exact ⟨c - 48, List.mem_range.mpr (by omega), by omega⟩
theorem marks_are : ("(),+-*<" : Str).cps.toList = [40, 41, 44, 43, 45, 42, 60] := by decide +kernel
def kdD : List (Key × V) := [(.inr "=", .int 2), (.inr " ", .int 4)]
section
variable {P : Program} {w : World} {K : PySem.W.Frag} {mg : Str → Option Value} {base : Heap}
theorem ok_kind {f : Addr} {fd : FuncData} (F : Fun K "_law_kind" "_law_kind" sKind f fd) (T : Bi mg) : FnOk P w K mg base CX0 1 f fd ["_law_sign"] spKind := by
  refine F.ok scKind (fun vs H Q E h => ?_) (fun cdv A outer s H vs Q E hr h => ?_)
  · obtain ⟨c, rfl, _⟩ := h
    rfl
  obtain ⟨c, rfl, q⟩ := h
  refine ⟨_, (pss_cons (ps_if (pt_cmpR op_in_sign (pv 0) pe_str rfl)
      (pss_one (ps_ret pe_int))
      pss_nil)
    (pss_cons (ps_if (pt_cmpR op_in_sign (pv 0) pe_str rfl)
      (pss_one (ps_ret pe_int))
      pss_nil)
    (pss_one (ps_ret (pe_dget2 (hu_of hr) (pe_disp (pps_cons pe_str pe_int (pps_cons pe_str pe_int pps_nil)) (by rfl) (by rfl) (fun z => by cases z) (by decide)) (pv 0) (pe_ix ix_list (pe_lst (pa_cons pe_int (pa_cons pe_int pa_nil))) (pe_callTy call_int1 (by rfl) T.int (by decide +kernel) (pa_cons (pe_cmpR op_in_sign (pv 0) pe_str rfl) pa_nil)) (fun _ _ => rfl)) ⟨rfl, rfl, rfl, rfl⟩))))), ?_⟩
  refine ⟨_, rfl, c, _, rfl, rfl, _, rfl, ?_⟩
  refine ite2 (fun h => ?_) (fun h => ?_)
  · have h0 : c ∈ ("abcdefghijklmnopqrstuvwxyz" : Str).cps.toList := of_decide_eq_true h
    have h1 := (lets_are c).mp h0
    have := q H (Same.refl _)
    rw [show kdC c = 0 from kd_let h1] at this
    exact this
  have n1 : ¬ (97 ≤ c ∧ c ≤ 122) := fun h1 => h (decide_eq_true (show c ∈ ("abcdefghijklmnopqrstuvwxyz" : Str).cps.toList from (lets_are c).mpr h1))
  refine ⟨_, rfl, c, _, rfl, rfl, _, rfl, ?_⟩
  refine ite2 (fun h => ?_) (fun h => ?_)
  · have h0 : c ∈ ("0123456789" : Str).cps.toList := of_decide_eq_true h
    have h1 := (digs_are c).mp h0
    have := q H (Same.refl _)
    rw [show kdC c = 1 from kd_dig h1] at this
    exact this
  have n2 : ¬ (48 ≤ c ∧ c ≤ 57) := fun h1 => h (decide_eq_true (show c ∈ ("0123456789" : Str).cps.toList from (digs_are c).mpr h1))
  refine fun d hd => ⟨upd_same, kdD, rfl, by decide, ?_⟩
  have e1 : upd (upd H d (.dK [])) d (.dK (mergeK [] kdD)) = upd H d (.dK (mergeK [] kdD)) := upd_upd
  rw [e1]
  have s1 := same_new hd (.dK (mergeK [] kdD))
  have hd1 : (upd H d (.dK (mergeK [] kdD))) d = some (.dK (mergeK [] kdD)) := upd_same
  generalize upd H d (.dK (mergeK [] kdD)) = H1 at s1 hd1
  refine ⟨d, rfl, .inl ⟨_, .inl hd1⟩, _, rfl, (by show 2 ≤ sizeLine; decide), fun l hl => ?_⟩
  have s2 := same_new hl (.lst [.int 9, .int 3])
  refine ⟨_, rfl, c, _, rfl, rfl, .inr ⟨_, rfl, ?_⟩⟩
  rw [marks_are]
  have hd2 := s2 _ _ hd1
  have fin : ∀ (i : Int) (v : Int), atI [V.int 9, .int 3] i = some (.int v) → v = (if c ∈ [40, 41, 44, 43, 45, 42, 60] then 3 else 9) → rIxL K (.ref l) (.int i) (upd H1 l (.lst [.int 9, .int 3])) fun z H3 => ∃ o, DGet H3 d (.str (uno c)) o ∧ Q (o.getD z) H3 := by
    intro i v ei ev
    refine ⟨l, _, _, _, rfl, rfl, SqL.of upd_same, ei, _, DGet.k (k := Sum.inr (uno c)) hd2, ?_⟩
    have := q _ (s1.trans s2)
    unfold kdC at this
    rw [if_neg n1, if_neg n2] at this
    by_cases c1 : c = 61
    · subst c1
      exact this
    · rw [if_neg c1] at this
      by_cases c2 : c = 32
      · subst c2
        exact this
      · rw [if_neg c2, ← ev] at this
        have e : valV (mergeK [] kdD) (Sum.inr (uno c)) = none := by
          have h1 : (uno 61) ≠ uno c := fun h => c1 (by have := congrArg cd h; exact ((List.cons.inj this).1).symm)
          have h2 : (uno 32) ≠ uno c := fun h => c2 (by have := congrArg cd h; exact ((List.cons.inj this).1).symm)
          rw [show mergeK [] kdD = kdD by decide +kernel]
          show (kdD.find? fun kv => decide (kv.1 = Sum.inr (uno c))).map _ = none
          have f1 : decide ((Sum.inr ("=" : Str) : Key) = Sum.inr (uno c)) = false := decide_eq_false fun h => h1 (Sum.inr.inj h)
          have f2 : decide ((Sum.inr (" " : Str) : Key) = Sum.inr (uno c)) = false := decide_eq_false fun h => h2 (Sum.inr.inj h)
          unfold kdD
          have f3 : decide (("=" : Str) = uno c) = false := decide_eq_false h1
          have f4 : decide ((" " : Str) = uno c) = false := decide_eq_false h2
          simp [List.find?, f3, f4]
        rw [e]
        exact this
  by_cases hm : c ∈ [40, 41, 44, 43, 45, 42, 60]
  · rw [decide_eq_true hm]
    exact fin 1 3 rfl (by rw [if_pos hm])
  · rw [decide_eq_false hm]
    exact fin 0 9 rfl (by rw [if_neg hm])
/-- pairs of a kind and a text -/
def PrsIn (H : Hp) (F : List (Int × Str)) (vs : List V) : Prop := vs.length = F.length ∧ ∀ (i : Nat) (x : Int × Str), F[i]? = some x → ∃ a : Addr, vs[i]? = some (.ref a) ∧ H a = some (.tup [.int x.1, .str x.2])
theorem PrsIn.keep {H H' : Hp} {F vs} (h : PrsIn H F vs) (k : ∀ a xs, H a = some (.tup xs) → H' a = some (.tup xs)) : PrsIn H' F vs := ⟨h.1, fun i x e => let ⟨a, h1, h2⟩ := h.2 i x e; ⟨a, h1, k _ _ h2⟩⟩
theorem PrsIn.snoc {H : Hp} {F vs} {k : Int} {t : Str} {a : Addr} (h : PrsIn H F vs) (e : H a = some (.tup [.int k, .str t])) : PrsIn H (F ++ [(k, t)]) (vs ++ [.ref a]) := by
  refine ⟨by rw [List.length_append, List.length_append, h.1]; rfl, fun i x hi => ?_⟩
  rcases Nat.lt_trichotomy i F.length with hl | hl | hl
  · rw [List.getElem?_append_left hl] at hi
    rw [List.getElem?_append_left (by rw [h.1]; exact hl)]
    exact h.2 i x hi
  · subst hl
    rw [List.getElem?_concat_length] at hi
    cases hi
    refine ⟨a, ?_, e⟩
    rw [← h.1, List.getElem?_concat_length]
  · rw [List.getElem?_eq_none (by rw [List.length_append]; show F.length + 1 ≤ i; omega)] at hi
    cases hi
theorem PrsIn.init {H : Hp} {G : List (Int × Str)} {x : Int × Str} {vs : List V} (h : PrsIn H (G ++ [x]) vs) : ∃ us a, vs = us ++ [.ref a] ∧ PrsIn H G us ∧ H a = some (.tup [.int x.1, .str x.2]) := by
  obtain ⟨a, e1, e2⟩ := h.2 G.length x List.getElem?_concat_length
  have hl : vs.length = G.length + 1 := by rw [h.1, List.length_append]; rfl
  have hv : vs = vs.dropLast ++ [.ref a] := by
    have hne : vs ≠ [] := fun z => by rw [z] at hl; cases hl
    have q := List.dropLast_concat_getLast hne
    have e3 : vs.getLast hne = .ref a := by
      rw [List.getLast_eq_getElem]
      have : vs[vs.length - 1]? = some (.ref a) := by rw [show vs.length - 1 = G.length by omega]; exact e1
      rw [List.getElem?_eq_getElem (by omega)] at this
      exact Option.some.inj this
    rw [e3] at q
    exact q.symm
  refine ⟨vs.dropLast, a, hv, ⟨by rw [List.length_dropLast]; omega, fun i y hi => ?_⟩, e2⟩
  have hi' : i < G.length := (List.getElem?_eq_some_iff.mp hi).1
  obtain ⟨b, f1, f2⟩ := h.2 i y (by rw [List.getElem?_append_left hi']; exact hi)
  refine ⟨b, ?_, f2⟩
  rw [List.getElem?_dropLast, if_pos (by omega)]
  exact f1
theorem pc_chk {p : Pc} (h : POk p) : (pkd p = 0 → (ptxt p).length ≤ 8) ∧ (pkd p = 1 → (ptxt p).length ≤ 30 ∧ ∃ d r, cd (ptxt p) = d :: r ∧ (d = 48 → r = [])) := by
  rcases p with _ | t
  · exact ⟨fun h => absurd h (by decide), fun h => absurd h (by decide)⟩
  · cases t with
    | lp => exact ⟨fun h => absurd h (by decide), fun h => absurd h (by decide)⟩
    | rp => exact ⟨fun h => absurd h (by decide), fun h => absurd h (by decide)⟩
    | sg g => cases g <;> exact ⟨fun h => absurd h (by decide), fun h => absurd h (by decide)⟩
    | num n =>
      have e : cd (ptxt (some (.num n))) = _ := cd_num h.1
      refine ⟨fun h => absurd (show (1 : Int) = 0 from h) (by decide), fun _ => ⟨?_, ?_⟩⟩
      · rw [← cd_len, e]; exact num_len h.1 h.2
      · rw [e]
        cases hd : TL.numL n.toNat with
        | nil => exact absurd hd (TL.numL_ne _)
        | cons d r =>
          refine ⟨d, r, rfl, fun e48 => ?_⟩
          subst e48
          by_cases hp : 0 < n.toNat
          · exact absurd hd (numL_head _ hp r)
          · rw [show n.toNat = 0 by omega, TL.numL_lt (by decide)] at hd
            exact (List.cons.inj hd).2.symm
    | nam s =>
      refine ⟨fun _ => ?_, fun h => absurd (show (0 : Int) = 1 from h) (by decide)⟩
      rw [← cd_len]; exact h.2.1
def spParts : Sp := fun vs H Q _ => ∃ (t : Str) (ps : List Pc), vs = [.str t] ∧ cd t = flat ps ∧ (∀ p ∈ ps, POk p) ∧ Lse false ps ∧ t.length ≤ 1000000 ∧
  ∀ (p : Addr) (H' : Hp), Same H H' → H p = none → H' p = some (.lst ((toks ps).map fun k => V.str k.txt)) → Q (.ref p) H'
theorem flat_kinds : ∀ {ps : List Pc}, (∀ p ∈ ps, POk p) → ∀ c ∈ flat ps, 0 ≤ kdC c ∧ kdC c ≤ 4
  | [], _, c, hc => by cases hc
  | p :: r, h, c, hc => by
    rw [flat_cons] at hc
    rcases List.mem_append.mp hc with q | q
    · rw [pc_kinds (h p List.mem_cons_self) c q]
      rcases p with _ | t
      · show (0 : Int) ≤ 4 ∧ (4 : Int) ≤ 4; decide
      · have := kd_range t
        show 0 ≤ t.kd ∧ t.kd ≤ 4
        omega
    · exact flat_kinds (fun p hp => h p (List.mem_cons_of_mem _ hp)) c q
theorem ixN_last (xs : List V) (v : V) : ixN (xs ++ [v]).length (-1) = some xs.length := by
  have hl : (xs ++ [v]).length = xs.length + 1 := by simp
  unfold ixN
  rw [hl]
  simp only [show ¬ (0 : Int) ≤ -1 by omega, if_false]
  split
  · congr 1; omega
  · omega
theorem addC_len (F : List (Int × Str)) (c : Nat) : (addC F c).length ≤ F.length + 1 := by
  unfold addC
  split
  · rename_i x hx
    split
    · rw [List.length_append, List.length_dropLast]; show F.length - 1 + 1 ≤ _; omega
    · rw [List.length_append]; exact Nat.le_refl _
  · rw [List.length_append]; exact Nat.le_refl _
theorem fold_len : ∀ (cs : List Nat) (F : List (Int × Str)), (cs.foldl addC F).length ≤ F.length + cs.length
  | [], F => Nat.le_refl _
  | c :: r, F => by
    have := fold_len r (addC F c)
    have := addC_len F c
    show (r.foldl addC (addC F c)).length ≤ F.length + (r.length + 1)
    omega
theorem addC_tl (F : List (Int × Str)) (c n : Nat) (h : ∀ x ∈ F, x.2.length ≤ n) : ∀ x ∈ addC F c, x.2.length ≤ n + 1 := by
  have h1 : (uno c).length = 1 := rfl
  unfold addC
  split
  · rename_i y hy
    have := h y (List.mem_of_getLast? hy)
    split
    · intro x hx
      rcases List.mem_append.mp hx with q | q
      · have := h x (List.dropLast_subset _ q); omega
      · rw [List.mem_singleton.mp q]; show (y.2 ++ uno c).length ≤ _; rw [app_len]; omega
    · intro x hx
      rcases List.mem_append.mp hx with q | q
      · have := h x q; omega
      · rw [List.mem_singleton.mp q]; show (uno c).length ≤ _; omega
  · intro x hx
    rcases List.mem_append.mp hx with q | q
    · have := h x q; omega
    · rw [List.mem_singleton.mp q]; show (uno c).length ≤ _; omega
theorem fold_tl : ∀ (cs : List Nat) (F : List (Int × Str)) (n : Nat), (∀ x ∈ F, x.2.length ≤ n) → ∀ x ∈ cs.foldl addC F, x.2.length ≤ n + cs.length
  | [], F, n, h, x, hx => h x hx
  | c :: r, F, n, h, x, hx => by
    have := fold_tl r (addC F c) (n + 1) (addC_tl F c n h) x hx
    show x.2.length ≤ n + (r.length + 1)
    omega
theorem ok_parts {f k1 : Addr} {fd k1d : FuncData} (F : Fun K "_law_parts" "_law_parts" sParts f fd) (KI : Fk P w K mg base 1 "_law_kind" k1 k1d ["_law_sign"] spKind) (T : Bi mg) : FnOk P w K mg base CX0 2 f fd ["_law_text"] spParts := by
  refine F.ok scParts (fun vs H Q E h => ?_) (fun cdv A outer s H vs Q E hr h => ?_)
  · obtain ⟨t, ps, rfl, _⟩ := h
    rfl
  obtain ⟨t, ps, rfl, et, ho, hl, hz, q⟩ := h
  refine ⟨_, (pss_cons (ps_set (i := 1) scParts.nd rfl (Or.inl rfl) (pe_lst pa_nil))
    (pss_cons (ps_for PassesOwn.never rfl (pi_str (pv 0)) (pg_name (i := 2) scParts.nd rfl (.inl rfl))
      (pss_cons (ps_set (i := 3) scParts.nd rfl (Or.inl rfl) (pe_call KI.G (hr.mono (by omega)) (by rfl) KI.m KI.k KI.b .nil pass0 (pa_cons (pv 2) pa_nil)))
    (pss_cons (ps_if (pt_cmpR op_eq (pv 3) pe_int (nomark _))
      (pss_one (ps_ret pe_non))
      pss_nil)
    (pss_one (ps_if (PW.pt (pw_and (pt_cmpR (SH.op_neNil hr.units) (pv 1) (pe_lst pa_nil) (nomark _)) (pw_and (pt_cmpR op_eq (pe_ix ix_tup (pe_ix ix_list (pv 1) (pe_un un_neg pe_int) (fun _ _ => rfl)) pe_int (fun _ _ => rfl)) (pv 3) (nomark _)) (pw_and1 (PW.pt (pw_or (pt_cmpR op_lt (pv 3) pe_int (nomark _)) (pw_or1 (PW.pt (pw_and (pt_cmpR op_eq (pv 3) pe_int (nomark _)) (pw_and1 (pt_cmpR op_eq (pe_callB call_len (by rfl) T.len (by decide +kernel) (pa_cons (pe_ix ix_tup (pe_ix ix_list (pv 1) (pe_un un_neg pe_int) (fun _ _ => rfl)) pe_int (fun _ _ => rfl)) pa_nil)) pe_int (nomark _))))))))))))
      (pss_one (ps_asg (pe_tup (pa_cons (pv 3) (pa_cons (pe_op op_add_str (pe_ix ix_tup (pe_ix ix_list (pv 1) (pe_un un_neg pe_int) (fun _ _ => rfl)) pe_int (fun _ _ => rfl)) (pv 2)) pa_nil))) (pg_sub (pv 1) (pe_un un_neg pe_int) set_list)))
      (pss_one (ps_expr (pe_bm PySem.F.plainAttrs_list PySem.F.slot_list_append PySem.F.type_list_append mt_append (pv 1) (pa_cons (pe_tup (pa_cons (pv 3) (pa_cons (pv 2) pa_nil))) pa_nil)))))))))
    (pss_cons (ps_for PassesOwn.never rfl (pi_list (pv 1)) (pg_tup rfl (pgs_cons (pg_name (i := 3) scParts.nd rfl (.inl rfl)) (pgs_cons (pg_name (i := 4) scParts.nd rfl (.inl rfl)) pgs_nil)))
      (pss_one (ps_if (PW.pt (pw_or (PW.pt (pw_and (pt_cmpR op_eq (pv 3) pe_int (nomark _)) (pw_and1 (pt_cmpR op_gt (pe_callB call_len (by rfl) T.len (by decide +kernel) (pa_cons (pv 4) pa_nil)) pe_int (nomark _))))) (pw_or1 (PW.pt (pw_and (pt_cmpR op_eq (pv 3) pe_int (nomark _)) (pw_and1 (PW.pt (pw_or (pt_cmpR op_gt (pe_callB call_len (by rfl) T.len (by decide +kernel) (pa_cons (pv 4) pa_nil)) pe_int (nomark _)) (pw_or1 (PW.pt (pw_and (pt_cmpR op_eq (pe_ix ix_str (pv 4) pe_int (fun _ _ => rfl)) pe_str (nomark _)) (pw_and1 (pt_cmpR op_ne (pv 4) pe_str (nomark _))))))))))))))
      (pss_one (ps_ret pe_non))
      pss_nil)))
    (pss_one (ps_ret (pe_lc (own := [("_law_kind_here", 3), ("_law_part", 4)]) (g := gTup K 2 (gCons (gName 3) (gCons (gName 4) gNil))) (by rfl) scParts.nd (pi_list (pv 1)) (blkOk_by (own := [("_law_kind_here", 3), ("_law_part", 4)]) (N := ["_law_text", "_law_found", "_law_sign", "_law_kind_here", "_law_part"]) (sc := defScope sParts) (by decide +kernel)) (fun _ _ _ _ _ => pg_tup rfl (pgs_cons (pg_name (i := 3) scParts.nd rfl (Or.inl rfl)) (pgs_cons (pg_name (i := 4) scParts.nd rfl (Or.inl rfl)) pgs_nil))) (fun _ _ _ _ _ => (pts_one (pt_cmpR op_ne (pv 3) pe_int (nomark _)))) (fun _ _ _ _ _ => (pv 4)))))))), ?_⟩
  have hs : sizeLine = 16777216 := by decide
  refine ⟨by decide, fun l nl => ?_⟩
  have esz : t.cps.size = (flat ps).length := by rw [← et]; exact (Array.length_toList).symm
  refine ⟨_, rfl, t, rfl, for_it walk_str (fun i σ H' => ∃ (s k p : Option V) (vs : List V), σ = [some (.str t), some (.ref l), s, k, p] ∧ Same H H' ∧ H' l = some (.lst vs) ∧ PrsIn H' (((flat ps).take i).foldl addC []) vs) ?_ (fun _ _ _ _ _ => trivial) ?_ ?_⟩
  · exact ⟨none, none, none, [], rfl, same_new nl _, upd_same, rfl, fun i x h => by cases h⟩
  · rintro i x σ H1 _ hi ⟨s0, k0, p0, vs, rfl, S1, h1, P1⟩ ⟨rfl, c, hc, rfl⟩
    have hci : (flat ps)[i]? = some c := by rw [← et]; unfold cd; rw [Array.getElem?_toList]; exact hc
    have hn : (flat ps).take (i + 1) = (flat ps).take i ++ [c] := by rw [List.take_add_one, hci]; rfl
    have hk := flat_kinds ho c (List.mem_of_getElem? hci)
    refine ⟨_, rfl, c, rfl, fun H2 S2 => ?_⟩
    refine ⟨_, rfl, rfl, _, rfl, ?_⟩
    rw [decide_eq_false (by intro z; have := V.int.inj z; omega)]
    refine iteF ?_
    have h2 := S2 _ _ h1
    have P2 := P1.keep fun a xs e => S2 a _ e
    have S12 := S1.trans S2
    generalize hF : List.foldl addC [] (List.take i (flat ps)) = F at P2
    have hF1 : List.foldl addC [] (List.take (i + 1) (flat ps)) = addC F c := by rw [hn, List.foldl_append, hF]; rfl
    have hfl : (flat ps).length ≤ 1000000 := by rw [← et, cd_len]; exact hz
    have hlen : vs.length ≤ 1000000 := by
      rw [P2.1, ← hF]
      have := fold_len ((flat ps).take i) []
      rw [List.length_take] at this
      simp only [List.length_nil] at this
      omega
    have htl : ∀ x ∈ F, x.2.length ≤ 1000000 := fun x hx => by
      rw [← hF] at hx
      have := fold_tl ((flat ps).take i) [] 0 (fun x h => by cases h) x hx
      rw [List.length_take] at this
      omega
    refine ⟨_, rfl, Nat.zero_le _, fun l2 nl2 => ?_⟩
    have S3 := same_new nl2 (.lst [])
    have h3 := S3 _ _ h2
    have P3 := P2.keep fun a xs e => S3 a _ e
    refine ⟨l, l2, vs, rfl, rfl, SqL.of h3, SqL.of upd_same, _, rfl, ?_⟩
    generalize upd H2 l2 (.lst []) = H3 at S3 h3 P3
    have S13 := S12.trans S3
    have Pend : ∀ vs' H4, Same H H4 → H4 l = some (.lst vs') → PrsIn H4 (addC F c) vs' → ∃ (s k p : Option V) (vs : List V), [some (.str t), some (.ref l), some (.str (uno c)), some (.int (kdC c)), p0] = [some (.str t), some (.ref l), s, k, p] ∧ Same H H4 ∧ H4 l = some (.lst vs) ∧ PrsIn H4 (List.foldl addC [] (List.take (i + 1) (flat ps))) vs :=
      fun vs' H4 a b d => ⟨_, _, _, vs', rfl, a, b, by rw [hF1]; exact d⟩
    rcases List.eq_nil_or_concat F with eF | ⟨G, ⟨k, tt⟩, eF⟩
    · subst eF
      have ev : vs = [] := List.length_eq_zero_iff.mp P3.1
      subst ev
      have hA : addC [] c = [] ++ [(kdC c, uno c)] := rfl
      refine iteF ?_
      refine iteF ?_
      refine ⟨_, rfl, .inl ⟨rfl, _, SqL.of h3⟩, _, rfl, _, rfl, (by show 2 ≤ sizeLine; decide), fun T nT => ?_⟩
      have S4 := same_new nT (.tup [.int (kdC c), .str (uno c)])
      have nTl : l ≠ T := ne_of_none h3 nT
      refine ⟨l, _, _, rfl, rfl, S4 _ _ h3, Nat.lt_of_le_of_lt hlen (by omega), Pend _ _ (fun b u e => ?_) upd_same ?_⟩
      · rw [upd_ne (fun z => by rw [z, nl] at e; cases e)]; exact S4 _ _ (S13 _ _ e)
      · rw [hA]
        refine PrsIn.snoc (P3.keep fun a xs e => ?_) ?_
        · rw [upd_ne (fun z => by rw [z, h3] at e; cases e)]; exact S4 _ _ e
        · rw [upd_ne nTl.symm]; exact upd_same
    · rw [List.concat_eq_append] at eF
      subst eF
      obtain ⟨us, a, ev, Pu, ha⟩ := P3.init
      have h3' := h3
      rw [ev] at h3'
      have htt : tt.length ≤ 1000000 := htl (k, tt) (List.mem_append_right _ List.mem_cons_self)
      have hcat : tt.length + (uno c).length ≤ sizeLine := by rw [show (uno c).length = 1 from rfl]; omega
      rw [show vs.isEmpty = false by rw [ev]; cases us <;> rfl]
      refine iteT ?_
      refine ⟨_, rfl, _, rfl, l, _, _, _, rfl, rfl, SqL.of h3', atI_last _ _, a, _, 0, _, rfl, rfl, SqT.of ha, atI_nat rfl, ?_⟩
      refine ⟨_, rfl, rfl, _, rfl, ?_⟩
      by_cases k1 : k = kdC c
      · rw [decide_eq_true (by rw [k1])]
        refine iteT ?_
        refine ⟨_, rfl, _, _, rfl, rfl, _, rfl, ?_⟩
        by_cases k2 : kdC c < 2
        · rw [decide_eq_true k2]
          refine iteT ?_
          refine iteT ?_
          have hA : addC (G ++ [(k, tt)]) c = G ++ [(kdC c, tt ++ uno c)] := add_on ⟨k1, .inl k2⟩
          refine ⟨_, rfl, _, rfl, _, rfl, l, _, _, _, rfl, rfl, SqL.of h3', atI_last _ _, a, _, 1, _, rfl, rfl, SqT.of ha, atI_nat (j := 1) rfl, _, rfl, _, _, rfl, rfl, hcat, ?_⟩
          refine ⟨(by show 2 ≤ sizeLine; decide), fun T nT => ?_⟩
          have S4 := same_new nT (.tup [.int (kdC c), .str (tt ++ uno c)])
          have nTl : l ≠ T := ne_of_none h3 nT
          refine ⟨_, rfl, _, rfl, l, _, _, _, rfl, rfl, S4 _ _ h3', ixN_last _ _, ?_⟩
          refine Pend _ _ (fun b u e => ?_) upd_same ?_
          · rw [upd_ne (fun z => by rw [z, nl] at e; cases e)]; exact S4 _ _ (S13 _ _ e)
          · rw [hA, show (us ++ [V.ref a]).set us.length (.ref T) = us ++ [.ref T] by simp]
            refine PrsIn.snoc (Pu.keep fun a xs e => ?_) ?_
            · rw [upd_ne (fun z => by rw [z, h3] at e; cases e)]; exact S4 _ _ e
            · rw [upd_ne nTl.symm]; exact upd_same
        · rw [decide_eq_false k2]
          refine iteF ?_
          refine ⟨_, rfl, rfl, _, rfl, ?_⟩
          by_cases k3 : kdC c = 2
          · rw [decide_eq_true (by rw [k3])]
            refine iteT ?_
            refine ⟨_, rfl, _, rfl, l, _, _, _, rfl, rfl, SqL.of h3', atI_last _ _, a, _, 1, _, rfl, rfl, SqT.of ha, atI_nat (j := 1) rfl, ?_⟩
            refine ⟨_, _, rfl, ⟨by show tt.length ≤ sizeLine; omega, rfl⟩, rfl, _, rfl, ?_⟩
            by_cases k4 : tt.length = 1
            · rw [decide_eq_true (by rw [k4]; rfl)]
              refine iteT ?_
              have hA : addC (G ++ [(k, tt)]) c = G ++ [(kdC c, tt ++ uno c)] := add_on ⟨k1, .inr ⟨k3, k4⟩⟩
              refine ⟨_, rfl, _, rfl, _, rfl, l, _, _, _, rfl, rfl, SqL.of h3', atI_last _ _, a, _, 1, _, rfl, rfl, SqT.of ha, atI_nat (j := 1) rfl, _, rfl, _, _, rfl, rfl, hcat, ?_⟩
              refine ⟨(by show 2 ≤ sizeLine; decide), fun T nT => ?_⟩
              have S4 := same_new nT (.tup [.int (kdC c), .str (tt ++ uno c)])
              have nTl : l ≠ T := ne_of_none h3 nT
              refine ⟨_, rfl, _, rfl, l, _, _, _, rfl, rfl, S4 _ _ h3', ixN_last _ _, ?_⟩
              refine Pend _ _ (fun b u e => ?_) upd_same ?_
              · rw [upd_ne (fun z => by rw [z, nl] at e; cases e)]; exact S4 _ _ (S13 _ _ e)
              · rw [hA, show (us ++ [V.ref a]).set us.length (.ref T) = us ++ [.ref T] by simp]
                refine PrsIn.snoc (Pu.keep fun a xs e => ?_) ?_
                · rw [upd_ne (fun z => by rw [z, h3] at e; cases e)]; exact S4 _ _ e
                · rw [upd_ne nTl.symm]; exact upd_same
            · rw [decide_eq_false (fun z : (V.int ((tt.length : Nat) : Int) = V.int 1) => k4 (by have := V.int.inj z; omega))]
              refine iteF ?_
              have hA : addC (G ++ [(k, tt)]) c = G ++ [(k, tt)] ++ [(kdC c, uno c)] := add_new fun x hx hm => by
                rw [List.getLast?_concat] at hx
                cases hx
                have := hm.2
                have k4' : ¬ (k, tt).2.length = 1 := k4
                omega
              refine ⟨_, rfl, .inl ⟨rfl, _, SqL.of h3⟩, _, rfl, _, rfl, (by show 2 ≤ sizeLine; decide), fun T nT => ?_⟩
              have S4 := same_new nT (.tup [.int (kdC c), .str (uno c)])
              have nTl : l ≠ T := ne_of_none h3 nT
              refine ⟨l, _, _, rfl, rfl, S4 _ _ h3, Nat.lt_of_le_of_lt hlen (by omega), Pend _ _ (fun b u e => ?_) upd_same ?_⟩
              · rw [upd_ne (fun z => by rw [z, nl] at e; cases e)]; exact S4 _ _ (S13 _ _ e)
              · rw [hA]
                refine PrsIn.snoc (P3.keep fun a xs e => ?_) ?_
                · rw [upd_ne (fun z => by rw [z, h3] at e; cases e)]; exact S4 _ _ e
                · rw [upd_ne nTl.symm]; exact upd_same
          · rw [decide_eq_false (fun z => k3 (V.int.inj z))]
            refine iteF ?_
            refine iteF ?_
            have hA : addC (G ++ [(k, tt)]) c = G ++ [(k, tt)] ++ [(kdC c, uno c)] := add_new fun x hx hm => by
              rw [List.getLast?_concat] at hx
              cases hx
              have := hm.2
              omega
            refine ⟨_, rfl, .inl ⟨rfl, _, SqL.of h3⟩, _, rfl, _, rfl, (by show 2 ≤ sizeLine; decide), fun T nT => ?_⟩
            have S4 := same_new nT (.tup [.int (kdC c), .str (uno c)])
            have nTl : l ≠ T := ne_of_none h3 nT
            refine ⟨l, _, _, rfl, rfl, S4 _ _ h3, Nat.lt_of_le_of_lt hlen (by omega), Pend _ _ (fun b u e => ?_) upd_same ?_⟩
            · rw [upd_ne (fun z => by rw [z, nl] at e; cases e)]; exact S4 _ _ (S13 _ _ e)
            · rw [hA]
              refine PrsIn.snoc (P3.keep fun a xs e => ?_) ?_
              · rw [upd_ne (fun z => by rw [z, h3] at e; cases e)]; exact S4 _ _ e
              · rw [upd_ne nTl.symm]; exact upd_same
      · rw [decide_eq_false (fun z => k1 (V.int.inj z))]
        refine iteF ?_
        refine iteF ?_
        have hA : addC (G ++ [(k, tt)]) c = G ++ [(k, tt)] ++ [(kdC c, uno c)] := add_new fun x hx hm => by
          rw [List.getLast?_concat] at hx
          cases hx
          exact k1 hm.1
        refine ⟨_, rfl, .inl ⟨rfl, _, SqL.of h3⟩, _, rfl, _, rfl, (by show 2 ≤ sizeLine; decide), fun T nT => ?_⟩
        have S4 := same_new nT (.tup [.int (kdC c), .str (uno c)])
        have nTl : l ≠ T := ne_of_none h3 nT
        refine ⟨l, _, _, rfl, rfl, S4 _ _ h3, Nat.lt_of_le_of_lt hlen (by omega), Pend _ _ (fun b u e => ?_) upd_same ?_⟩
        · rw [upd_ne (fun z => by rw [z, nl] at e; cases e)]; exact S4 _ _ (S13 _ _ e)
        · rw [hA]
          refine PrsIn.snoc (P3.keep fun a xs e => ?_) ?_
          · rw [upd_ne (fun z => by rw [z, h3] at e; cases e)]; exact S4 _ _ e
          · rw [upd_ne nTl.symm]; exact upd_same
  · rintro σ H1 ⟨s0, k0, p0, vs, rfl, S1, h1, P1⟩
    rw [esz, List.take_length, fold_pcs ps [] false hl ho (fun _ x h => by cases h), List.nil_append] at P1
    have hvl : vs.length = ps.length := by rw [P1.1, List.length_map]
    have hps : ps.length ≤ 1000000 := by
      have : ∀ l : List Pc, (∀ p ∈ l, POk p) → l.length ≤ (flat l).length := by
        intro l
        induction l with
        | nil => intro _; exact Nat.le_refl _
        | cons x r ih =>
          intro h
          have h1 := ih fun p hp => h p (List.mem_cons_of_mem _ hp)
          have h2 := List.length_pos_iff.mpr (pc_ne (h x List.mem_cons_self))
          rw [flat_cons, List.length_append, List.length_cons]
          omega
      have := this ps ho
      rw [← et, cd_len] at this
      omega
    refine ⟨_, rfl, l, rfl, ⟨_, SqL.of h1⟩, for_list (K := K) (xs := vs) (fun i σ H' => ∃ (s k p : Option V), σ = [some (.str t), some (.ref l), s, k, p] ∧ H1 = H') ⟨_, _, _, rfl, rfl⟩ (fun i σ H' _ h => by obtain ⟨_, _, _, _, rfl⟩ := h; exact SqL.of h1) ?_ ?_⟩
    · rintro i x σ _ hx ⟨s1, k1, p1, rfl, rfl⟩
      have hil : i < vs.length := (List.getElem?_eq_some_iff.mp hx).1
      have hpi : ps[i]? = some ps[i] := List.getElem?_eq_getElem (by omega)
      generalize ps[i]'(by omega) = p at hpi
      have hpo := ho p (List.mem_of_getElem? hpi)
      obtain ⟨a, ea, ha⟩ := P1.2 i (pkd p, ptxt p) (by rw [List.getElem?_map, hpi]; rfl)
      rw [hx] at ea
      cases ea
      obtain ⟨c0, c1⟩ := pc_chk hpo
      have hsz : (ptxt p).length ≤ 16777216 := by
        have : (ptxt p).length ≤ (flat ps).length := by
          obtain ⟨A1, B1, e⟩ := List.append_of_mem (List.mem_of_getElem? hpi)
          rw [e, flat_app, flat_cons, List.length_append, List.length_append, cd_len]; omega
        rw [← et, cd_len] at this
        omega
      refine ⟨a, _, rfl, SqT.of ha, rfl, _, _, rfl, _, _, rfl, rfl, ?_⟩
      refine ⟨_, rfl, rfl, _, rfl, ?_⟩
      by_cases h0 : pkd p = 0
      · have c0' := c0 h0
        rw [decide_eq_true (by show V.int (pkd p) = V.int 0; rw [h0])]
        refine iteT ?_
        refine ⟨_, rfl, _, _, rfl, ⟨by show (ptxt p).length ≤ sizeLine; omega, rfl⟩, _, _, rfl, rfl, _, rfl, ?_⟩
        rw [decide_eq_false (by show ¬ (8 : Int) < ((ptxt p).length : Nat); omega)]
        refine iteF ?_
        refine ⟨_, rfl, rfl, _, rfl, ?_⟩
        rw [decide_eq_false (fun z : V.int (pkd p) = V.int 1 => by have := V.int.inj z; omega)]
        refine iteF ?_
        refine iteF ?_
        exact ⟨_, _, _, rfl, rfl⟩
      · rw [decide_eq_false (fun z : V.int (pkd p) = V.int 0 => h0 (V.int.inj z))]
        refine iteF ?_
        refine iteF ?_
        refine ⟨_, rfl, rfl, _, rfl, ?_⟩
        by_cases h1 : pkd p = 1
        · obtain ⟨c2, d, r, ed, hd⟩ := c1 h1
          rw [decide_eq_true (by show V.int (pkd p) = V.int 1; rw [h1])]
          refine iteT ?_
          refine ⟨_, rfl, _, _, rfl, ⟨by show (ptxt p).length ≤ sizeLine; omega, rfl⟩, _, _, rfl, rfl, _, rfl, ?_⟩
          rw [decide_eq_false (by show ¬ (30 : Int) < ((ptxt p).length : Nat); omega)]
          refine iteF ?_
          refine ⟨_, rfl, ptxt p, 0, d, rfl, rfl, by omega, (by show atI (cd (ptxt p)) 0 = some d; rw [ed]; exact atI_nat (j := 0) rfl), rfl, _, rfl, ?_⟩
          by_cases e48 : d = 48
          · subst e48
            have e0 : ptxt p = ("0" : Str) := cd_inj (by rw [ed, hd rfl]; decide +kernel)
            rw [decide_eq_true (by decide +kernel)]
            refine iteT ?_
            refine ⟨_, rfl, rfl, _, rfl, ?_⟩
            rw [e0, decide_eq_true rfl]
            refine iteF ?_
            exact ⟨_, _, _, rfl, rfl⟩
          · rw [decide_eq_false (fun z => e48 (by
              have := congrArg cd (V.str.inj z)
              rw [show cd ("0" : Str) = [48] by decide +kernel] at this
              exact (List.cons.inj this).1))]
            refine iteF ?_
            refine iteF ?_
            exact ⟨_, _, _, rfl, rfl⟩
        · rw [decide_eq_false (fun z : V.int (pkd p) = V.int 1 => h1 (V.int.inj z))]
          refine iteF ?_
          refine iteF ?_
          exact ⟨_, _, _, rfl, rfl⟩
    · rintro σ _ ⟨s1, k1, p1, rfl, rfl⟩
      have Pall : ∀ (i : Nat) (p : Pc), ps[i]? = some p → ∃ a : Addr, vs[i]? = some (.ref a) ∧ H1 a = some (.tup [.int (pkd p), .str (ptxt p)]) := fun i p e => P1.2 i _ (by rw [List.getElem?_map, e]; rfl)
      refine ⟨_, rfl, l, rfl, ⟨_, SqL.of h1⟩, fun D hD => ?_⟩
      have nl2 : l ≠ D := ne_of_none h1 hD
      refine lc_list (K := K) (a := l) (xs := vs) (fun j H' => H' D = some (.lst ((toks (ps.take j)).map fun k => V.str k.txt)) ∧ Same H1 H') ⟨upd_same, same_new hD _⟩ (fun j H' _ h => SqL.of (h.2 _ _ h1)) ?_ ?_
      · rintro j x H2 hx ⟨d2, S2⟩
        have hil : j < vs.length := (List.getElem?_eq_some_iff.mp hx).1
        have hpi : ps[j]? = some ps[j] := List.getElem?_eq_getElem (by omega)
        generalize ps[j]'(by omega) = p at hpi
        have hpo := ho p (List.mem_of_getElem? hpi)
        obtain ⟨a, ea, ha⟩ := Pall j p hpi
        rw [hx] at ea
        cases ea
        have ht : toks (ps.take (j + 1)) = toks (ps.take j) ++ toks [p] := by rw [List.take_add_one, hpi, toks_app]; rfl
        refine ⟨a, _, rfl, SqT.of (S2 _ _ ha), rfl, _, _, rfl, _, _, rfl, rfl, rfl, ?_⟩
        refine ⟨_, rfl, rfl, _, rfl, ?_⟩
        rcases p with _ | tk
        · rw [show (!decide (V.int (pkd none) = V.int 4)) = false by decide]
          refine iteF ⟨?_, S2⟩
          rw [ht, show toks [none] = [] from rfl, List.append_nil]
          exact d2
        · have hk4 : pkd (some tk) ≠ 4 := by have := kd_range tk; show tk.kd ≠ 4; omega
          rw [decide_eq_false (fun z => hk4 (V.int.inj z))]
          refine iteT ⟨_, rfl, _, d2, ?_, ?_, fun b u e => ?_⟩
          · rw [List.length_map]
            have : (toks (ps.take j)).length ≤ ps.length := Nat.le_trans (List.length_filterMap_le _ _) (by rw [List.length_take]; omega)
            have := hps
            omega
          · rw [upd_same, ht, List.map_append]
            rfl
          · rw [upd_ne (ne_of_none e hD)]
            exact S2 _ _ e
      · rintro H2 ⟨d2, S2⟩
        rw [hvl, List.take_length] at d2
        exact q D H2 (S1.trans S2) (S1.free hD) d2
end
end SH

set_option Elab.async false
set_option linter.all false
set_option maxRecDepth 100000
namespace SH
open PySem L2
abbrev sTitle : Stmt := topS 18
abbrev sFold : Stmt := topS 19
theorem scTitle : FnScope ["_law_part"] ["_law_part"] (defScope sTitle) := ⟨rfl, rfl, rfl, by decide +kernel, rfl, by decide +kernel, by decide +kernel⟩
theorem scFold : FnScope ["_law_outs", "_law_pile", "_law_other", "_law_one"] ["_law_outs", "_law_pile"] (defScope sFold) := ⟨rfl, rfl, rfl, by decide +kernel, rfl, by decide +kernel, by decide +kernel⟩
def spTitle : Sp := fun vs H Q _ => ∃ (s : Str) (c : Nat) (r : List Nat), vs = [.str s] ∧ cd s = c :: r ∧ s.length ≤ 1000000 ∧ ∀ H', Same H H' → Q (.bl (decide (kdC c = 0) && !decide (s ∈ kept))) H'
/-- a tree and how deep it is -/
def OtIn (H : Hp) (v : V) (o : Ot) : Prop := ∃ (a : Addr) (t : V), v = .ref a ∧ H a = some (.tup [t, .int (o.2 : Nat)]) ∧ TrIn H o.1 t
def OtsR (H : Hp) : List Ot → List V → Prop
  | [], vs => vs = []
  | o :: os, vs => ∃ us v, vs = us ++ [v] ∧ OtIn H v o ∧ OtsR H os us
def sgV : Option Sg → V
  | none => .str "("
  | some g => .str g.txt
def pileV (p : Pile) : List V := (p.map sgV).reverse
theorem pileV_cons (x : Option Sg) (p : Pile) : pileV (x :: p) = pileV p ++ [sgV x] := by unfold pileV; rw [List.map_cons, List.reverse_cons]
theorem pileV_len (p : Pile) : (pileV p).length = p.length := by unfold pileV; rw [List.length_reverse, List.length_map]
/-- all but the two lists stays -/
def But2 (a b : Addr) (H H' : Hp) : Prop := ∀ c o, c ≠ a → c ≠ b → H c = some o → H' c = some o
theorem But2.trans {a b : Addr} {H H1 H2 : Hp} (h : But2 a b H H1) (k : But2 a b H1 H2) : But2 a b H H2 := fun c o x y e => k c o x y (h c o x y e)
theorem But2.tup {a b : Addr} {H H' : Hp} {xs ys : List V} (h : But2 a b H H') (ha : H a = some (.lst xs)) (hb : H b = some (.lst ys)) : ∀ c zs, H c = some (.tup zs) → H' c = some (.tup zs) :=
  fun c zs e => h c _ (fun z => by rw [z, ha] at e; cases e) (fun z => by rw [z, hb] at e; cases e) e
theorem TrIn.tups {H H' : Hp} (h : ∀ c zs, H c = some (.tup zs) → H' c = some (.tup zs)) : ∀ {e : Ex} {v : V}, TrIn H e v → TrIn H' e v
  | .num n, v, ⟨a, e, k⟩ => ⟨a, e, h _ _ k⟩
  | .nam n, v, ⟨a, e, k⟩ => ⟨a, e, h _ _ k⟩
  | .op g l r, v, ⟨a, x, y, e, k, p, q⟩ => ⟨a, x, y, e, h _ _ k, TrIn.tups h p, TrIn.tups h q⟩
theorem OtIn.tups {H H' : Hp} (h : ∀ c zs, H c = some (.tup zs) → H' c = some (.tup zs)) {o : Ot} {v : V} (k : OtIn H v o) : OtIn H' v o := let ⟨a, t, e, f, g⟩ := k; ⟨a, t, e, h _ _ f, g.tups h⟩
theorem OtsR.tups {H H' : Hp} (h : ∀ c zs, H c = some (.tup zs) → H' c = some (.tup zs)) : ∀ {os : List Ot} {vs : List V}, OtsR H os vs → OtsR H' os vs
  | [], _, e => e
  | _ :: _, _, ⟨us, v, e, f, g⟩ => ⟨us, v, e, f.tups h, OtsR.tups h g⟩
theorem OtsR.len {H : Hp} : ∀ {os : List Ot} {vs : List V}, OtsR H os vs → vs.length = os.length
  | [], _, e => by rw [show _ = [] from e]; rfl
  | _ :: _, _, ⟨us, v, e, f, g⟩ => by rw [e, List.length_append, OtsR.len g]; rfl
/-- enough trees for the signs -/
def enough : Pile → Nat → Prop
  | [], _ => False
  | none :: _, _ => True
  | some _ :: p, n => 2 ≤ n ∧ enough p (n - 1)
theorem Wi.enough {os : List Ot} {p : Pile} {c : Nat} (h : Wi os p c) (hp : p ≠ []) : enough p (os.length + 1) := by
  induction h with
  | nil => exact absurd rfl hp
  | lp _ _ => trivial
  | sg _ hp' _ _ ih => exact ⟨by rw [List.length_cons]; omega, ih hp'⟩
def spFold : Sp := fun vs H Q _ => ∃ (lo lp : Addr) (us : List V) (x y : V) (a o : Ot) (g : Sg) (qv : List V), vs = [.ref lo, .ref lp] ∧ lo ≠ lp ∧ H lo = some (.lst (us ++ [x] ++ [y])) ∧ OtIn H x a ∧ OtIn H y o ∧ H lp = some (.lst (qv ++ [.str g.txt])) ∧ us.length ≤ 1000000 ∧
  ∀ (H' : Hp) (z : V), H' lo = some (.lst (us ++ [z])) → OtIn H' z (mk2 g a o) → H' lp = some (.lst qv) → But2 lo lp H H' → Q (.bl (decide ((mk2 g a o).2 < 7))) H'
section
variable {P : Program} {w : World} {K : PySem.W.Frag} {mg : Str → Option Value} {base : Heap}
theorem ok_title {f k1 k2 : Addr} {fd k1d k2d : FuncData} (F : Fun K "_law_is_title" "_law_is_title" sTitle f fd) (KI : Fk P w K mg base 1 "_law_kind" k1 k1d ["_law_sign"] spKind) (KP : Fk P w K mg base 1 "_law_kept" k2 k2d [] spKept) :
    FnOk P w K mg base CX0 2 f fd ["_law_part"] spTitle := by
  refine F.ok scTitle (fun vs H Q E h => ?_) (fun cdv A outer s H vs Q E hr h => ?_)
  · obtain ⟨s, c, r, rfl, _⟩ := h
    rfl
  obtain ⟨z, c, r, rfl, ez, hz, q⟩ := h
  refine ⟨_, (pss_one (ps_ret (pe_and (pe_cmpR op_eq (pe_call KI.G (hr.mono (by omega)) (by rfl) KI.m KI.k KI.b .nil pass0 (pa_cons (pe_ix ix_str (pv 0) pe_int (fun _ _ => rfl)) pa_nil)) pe_int (nomark _)) (pe_one (pe_cmpR op_notIn_seq (pv 0) (pe_call0 KP.G (hr.mono (by omega)) (by rfl) KP.m KP.k KP.b .nil pass0) rfl))))), ?_⟩
  have hs : sizeLine = 16777216 := by decide
  refine ⟨_, rfl, z, 0, c, rfl, rfl, by omega, (by show atI (cd z) 0 = some c; rw [ez]; exact atI_nat (j := 0) rfl), c, rfl, fun H2 S2 => ?_⟩
  refine ⟨rfl, _, rfl, ?_⟩
  by_cases h0 : kdC c = 0
  · rw [decide_eq_true (by rw [h0])]
    refine iteT ?_
    refine ⟨_, rfl, rfl, fun p hp => ?_⟩
    refine ⟨p, _, rfl, .inl (SqL.of upd_same), rfl, flat_strs kept, ?_⟩
    rw [if_pos rfl]
    rw [inV_str]
    have := q _ (S2.trans (same_new hp (.lst (kept.map V.str))))
    rw [decide_eq_true h0, Bool.true_and] at this
    exact this
  · rw [decide_eq_false (fun z => h0 (V.int.inj z))]
    refine iteF ?_
    have := q _ S2
    rw [decide_eq_false h0, Bool.false_and] at this
    exact this
theorem ok_fold {f : Addr} {fd : FuncData} (F : Fun K "_law_fold" "_law_fold" sFold f fd) (T : Bi mg) : FnOk P w K mg base CX0 1 f fd ["_law_outs", "_law_pile"] spFold := by
  refine F.ok scFold (fun vs H Q E h => ?_) (fun cdv A outer s H vs Q E hr h => ?_)
  · obtain ⟨lo, lp, us, x, y, a, o, g, qv, rfl, _⟩ := h
    rfl
  obtain ⟨lo, lp, us, x, y, a, o, g, qv, rfl, hne, h1, hx, hy, h2, hz, q⟩ := h
  refine ⟨_, (pss_cons (ps_par (i := 2) (j := 3) rfl scFold.nd rfl rfl (by decide) rfl rfl (pa_cons (pe_bm0 PySem.F.plainAttrs_list PySem.F.slot_list_pop PySem.F.type_list_pop mt_pop (pv 0)) (pa_cons (pe_bm0 PySem.F.plainAttrs_list PySem.F.slot_list_pop PySem.F.type_list_pop mt_pop (pv 0)) pa_nil)) (by rfl))
    (pss_cons (ps_expr (pe_bm PySem.F.plainAttrs_list PySem.F.slot_list_append PySem.F.type_list_append mt_append (pv 0) (pa_cons (pe_tup (pa_cons (pe_tup (pa_cons (pe_bm0 PySem.F.plainAttrs_list PySem.F.slot_list_pop PySem.F.type_list_pop mt_pop (pv 1)) (pa_cons (pe_ix ix_tup (pv 3) pe_int (fun _ _ => rfl)) (pa_cons (pe_ix ix_tup (pv 2) pe_int (fun _ _ => rfl)) pa_nil)))) (pa_cons (pe_op op_add pe_int (pe_callB (call_max2 rfl) (by rfl) T.max (by decide +kernel) (pa_cons (pe_ix ix_tup (pv 3) pe_int (fun _ _ => rfl)) (pa_cons (pe_ix ix_tup (pv 2) pe_int (fun _ _ => rfl)) pa_nil)))) pa_nil))) pa_nil)))
    (pss_one (ps_ret (pe_cmpR op_lt (pe_ix ix_tup (pe_ix ix_list (pv 0) (pe_un un_neg pe_int) (fun _ _ => rfl)) pe_int (fun _ _ => rfl)) pe_int (nomark _)))))), ?_⟩
  have hs : sizeLine = 16777216 := by decide
  have glast : ∀ (l : List V) (v : V), (l ++ [v])[(l ++ [v]).length - 1]? = some v := fun l v => by rw [List.length_append]; exact List.getElem?_concat_length
  refine ⟨_, rfl, .inl ⟨rfl, _, SqL.of h1⟩, lo, _, y, rfl, rfl, h1, glast _ _, ?_⟩
  rw [List.dropLast_concat]
  refine ⟨_, rfl, .inl ⟨rfl, _, SqL.of upd_same⟩, lo, _, x, rfl, rfl, upd_same, glast _ _, ?_⟩
  rw [List.dropLast_concat, upd_upd]
  refine ⟨_, _, rfl, ?_⟩
  have h2' : (upd H lo (.lst us)) lp = some (.lst (qv ++ [.str g.txt])) := by rw [upd_ne hne.symm]; exact h2
  refine ⟨_, rfl, .inl ⟨rfl, _, SqL.of upd_same⟩, ?_⟩
  refine ⟨_, rfl, .inl ⟨rfl, _, SqL.of h2'⟩, lp, _, .str g.txt, rfl, rfl, h2', glast _ _, ?_⟩
  rw [List.dropLast_concat]
  obtain ⟨ax, tx, rfl, hax, Tx⟩ := hx
  obtain ⟨ay, ty, rfl, hay, Ty⟩ := hy
  have B0 : But2 lo lp H (upd (upd H lo (.lst us)) lp (.lst qv)) := fun c u n1 n2 e => by rw [upd_ne n2, upd_ne n1]; exact e
  have g1 : (upd (upd H lo (.lst us)) lp (.lst qv)) lo = some (.lst us) := by rw [upd_ne hne, upd_same]
  have g2 : (upd (upd H lo (.lst us)) lp (.lst qv)) lp = some (.lst qv) := upd_same
  have K0 := B0.tup h1 h2
  generalize upd (upd H lo (.lst us)) lp (.lst qv) = H1 at B0 g1 g2 K0
  have e1 := K0 _ _ hax
  have e2 := K0 _ _ hay
  refine ⟨_, rfl, ax, _, 0, _, rfl, rfl, SqT.of e1, atI_nat rfl, _, rfl, ay, _, 0, _, rfl, rfl, SqT.of e2, atI_nat rfl, (by show 3 ≤ sizeLine; decide), fun p np => ?_⟩
  have S1 := same_new np (.tup [.str g.txt, tx, ty])
  have f1 := S1 _ _ e1
  have f2 := S1 _ _ e2
  refine ⟨_, rfl, ax, _, 1, _, rfl, rfl, SqT.of f1, atI_nat (j := 1) rfl, _, rfl, ay, _, 1, _, rfl, rfl, SqT.of f2, atI_nat (j := 1) rfl, _, _, rfl, _, _, rfl, rfl, (by show 2 ≤ sizeLine; decide), fun p2 np2 => ?_⟩
  have em : (1 : Int) + (if (o.2 : Int) > (a.2 : Int) then (o.2 : Int) else (a.2 : Int)) = ((1 + max a.2 o.2 : Nat) : Int) := by
    split <;> omega
  have S2 := same_new np2 (.tup [.ref p, .int (1 + if (o.2 : Int) > (a.2 : Int) then (o.2 : Int) else (a.2 : Int))])
  have S12 := S1.trans S2
  refine ⟨lo, _, _, rfl, rfl, S12 _ _ g1, by omega, ?_⟩
  have h5 : (upd (upd (upd H1 p (.tup [.str g.txt, tx, ty])) p2 (.tup [.ref p, .int (1 + if (o.2 : Int) > (a.2 : Int) then (o.2 : Int) else (a.2 : Int))])) lo (.lst (us ++ [.ref p2]))) lo = some (.lst (us ++ [.ref p2])) := upd_same
  have n1 : p ≠ lo := fun z => by rw [z, g1] at np; cases np
  have n2 : p2 ≠ lo := fun z => by rw [z] at np2; rw [S1 _ _ g1] at np2; cases np2
  have h6 : (upd (upd (upd H1 p (.tup [.str g.txt, tx, ty])) p2 (.tup [.ref p, .int (1 + if (o.2 : Int) > (a.2 : Int) then (o.2 : Int) else (a.2 : Int))])) lo (.lst (us ++ [.ref p2]))) p2 = some (.tup [.ref p, .int (1 + if (o.2 : Int) > (a.2 : Int) then (o.2 : Int) else (a.2 : Int))]) := by rw [upd_ne n2, upd_same]
  have h7 : (upd (upd (upd H1 p (.tup [.str g.txt, tx, ty])) p2 (.tup [.ref p, .int (1 + if (o.2 : Int) > (a.2 : Int) then (o.2 : Int) else (a.2 : Int))])) lo (.lst (us ++ [.ref p2]))) p = some (.tup [.str g.txt, tx, ty]) := by rw [upd_ne n1]; exact S2 _ _ upd_same
  have h8 : (upd (upd (upd H1 p (.tup [.str g.txt, tx, ty])) p2 (.tup [.ref p, .int (1 + if (o.2 : Int) > (a.2 : Int) then (o.2 : Int) else (a.2 : Int))])) lo (.lst (us ++ [.ref p2]))) lp = some (.lst qv) := by rw [upd_ne hne.symm]; exact S12 _ _ g2
  have B1 : But2 lo lp H1 (upd (upd (upd H1 p (.tup [.str g.txt, tx, ty])) p2 (.tup [.ref p, .int (1 + if (o.2 : Int) > (a.2 : Int) then (o.2 : Int) else (a.2 : Int))])) lo (.lst (us ++ [.ref p2]))) := fun c u m1 m2 e => by rw [upd_ne m1]; exact S12 _ _ e
  generalize (upd (upd (upd H1 p (.tup [.str g.txt, tx, ty])) p2 (.tup [.ref p, .int (1 + if (o.2 : Int) > (a.2 : Int) then (o.2 : Int) else (a.2 : Int))])) lo (.lst (us ++ [.ref p2]))) = H2 at h5 h6 h7 h8 B1
  rw [em] at h6
  have B := B0.trans B1
  have KT := B.tup h1 h2
  refine ⟨_, rfl, _, rfl, lo, _, _, _, rfl, rfl, SqL.of h5, atI_last _ _, p2, _, 1, _, rfl, rfl, SqT.of h6, atI_nat (j := 1) rfl, _, _, rfl, rfl, ?_⟩
  have := q H2 (.ref p2) h5 ⟨p2, .ref p, rfl, h6, p, tx, ty, rfl, h7, Tx.tups KT, Ty.tups KT⟩ h8 B
  have ed : decide (((1 + max a.2 o.2 : Nat) : Int) < 7) = decide ((mk2 g a o).2 < 7) := by
    show _ = decide (1 + max a.2 o.2 < 7)
    exact decide_eq_decide.mpr (by omega)
  rw [← ed] at this
  exact this
end
end SH

set_option Elab.async false
set_option linter.all false
set_option maxRecDepth 100000
namespace SH
open PySem L2
abbrev sClosed : Stmt := topS 20
abbrev sSigned : Stmt := topS 21
theorem scClosed : FnScope ["_law_outs", "_law_pile"] ["_law_outs", "_law_pile"] (defScope sClosed) := ⟨rfl, rfl, rfl, by decide +kernel, rfl, by decide +kernel, by decide +kernel⟩
theorem scSigned : FnScope ["_law_outs", "_law_pile", "_law_part", "_law_binds"] ["_law_outs", "_law_pile", "_law_part"] (defScope sSigned) := ⟨rfl, rfl, rfl, by decide +kernel, rfl, by decide +kernel, by decide +kernel⟩
/-- the two lists as they stand -/
structure Two (H : Hp) (lo lp : Addr) (os : List Ot) (p : Pile) : Prop where
  o : ∃ ov, H lo = some (.lst ov) ∧ OtsR H os ov
  p : H lp = some (.lst (pileV p))
def spClosed : Sp := fun vs H Q _ => ∃ (lo lp : Addr) (os : List Ot) (p : Pile), vs = [.ref lo, .ref lp] ∧ lo ≠ lp ∧ Two H lo lp os p ∧ enough p os.length ∧ os.length ≤ 1000000 ∧
  (∀ x H', closeM p os = some x → Two H' lo lp x.1 x.2 → But2 lo lp H H' → Q (.bl true) H') ∧ (∀ H', closeM p os = none → But2 lo lp H H' → Q (.bl false) H')
def spSigned : Sp := fun vs H Q _ => ∃ (lo lp : Addr) (os : List Ot) (p : Pile) (g : Sg), vs = [.ref lo, .ref lp, .str g.txt] ∧ lo ≠ lp ∧ Two H lo lp os p ∧ enough p os.length ∧ os.length ≤ 1000000 ∧ p.length ≤ 1000000 ∧
  (∀ x H', signM g p os = some x → Two H' lo lp x.1 (some g :: x.2) → But2 lo lp H H' → Q (.bl true) H') ∧ (∀ H', signM g p os = none → But2 lo lp H H' → Q (.bl false) H')
theorem sg_lp (g : Sg) : sgV (some g) ≠ V.str "(" := by
  intro z
  have := congrArg cd (V.str.inj (show V.str g.txt = V.str "(" from z))
  rw [cd_sg, cd_lp] at this
  cases g <;> cases this
def bnD : List (Key × V) := [(.inr "*", .int 3), (.inr "+", .int 2), (.inr "-", .int 2), (.inr "<", .int 1), (.inr "==", .int 1)]
theorem bnD_at (g : Sg) : valV (mergeK [] bnD) (Sum.inr g.txt) = some (.int g.lv) := by cases g <;> decide +kernel
section
variable {P : Program} {w : World} {K : PySem.W.Frag} {mg : Str → Option Value} {base : Heap}
theorem But2.refl {a b : Addr} (H : Hp) : But2 a b H H := fun _ _ _ _ e => e
theorem ok_closed {f k1 : Addr} {fd k1d : FuncData} (F : Fun K "_law_closed" "_law_closed" sClosed f fd) (FO : Fk P w K mg base 1 "_law_fold" k1 k1d ["_law_outs", "_law_pile"] spFold) (T : Bi mg) : FnOk P w K mg base CX0 2 f fd ["_law_outs", "_law_pile"] spClosed := by
  refine F.ok scClosed (fun vs H Q E h => ?_) (fun cdv A outer s H vs Q E hr h => ?_)
  · obtain ⟨lo, lp, os, p, rfl, _⟩ := h
    rfl
  obtain ⟨lo, lp, os, p, rfl, hne, h2, he, hz, q1, q2⟩ := h
  refine ⟨_, (pss_cons (ps_while PassesOwn.never (pt_cmpR op_ne (pe_ix ix_list (pv 1) (pe_un un_neg pe_int) (fun _ _ => rfl)) pe_str (nomark _))
      (pss_one (ps_if (pt_not (pt_val (pe_call FO.G (hr.mono (by omega)) (by rfl) FO.m FO.k FO.b .nil pass0 (pa_cons (pv 0) (pa_cons (pv 1) pa_nil)))))
      (pss_one (ps_ret pe_bl))
      pss_nil)))
    (pss_cons (ps_expr (pe_bm0 PySem.F.plainAttrs_list PySem.F.slot_list_pop PySem.F.type_list_pop mt_pop (pv 1)))
    (pss_one (ps_ret pe_bl)))), ?_⟩
  have hs : sizeLine = 16777216 := by decide
  refine ⟨fun m σ H' => ∃ p' os', m = p'.length ∧ σ = [some (.ref lo), some (.ref lp)] ∧ Two H' lo lp os' p' ∧ enough p' os'.length ∧ os'.length ≤ 1000000 ∧ closeM p' os' = closeM p os ∧ But2 lo lp H H', ⟨_, p, os, rfl, rfl, h2, he, hz, rfl, But2.refl H⟩, ?_⟩
  rintro m σ H1 ⟨p', os', rfl, rfl, t2, e2, z2, eq, B⟩
  cases p' with
  | nil => exact e2.elim
  | cons x p' =>
    have hp := t2.p
    rw [pileV_cons] at hp
    refine ⟨_, rfl, _, rfl, lp, _, _, _, rfl, rfl, SqL.of hp, atI_last _ _, (by cases x <;> rfl), _, rfl, ?_⟩
    cases x with
    | none =>
      rw [show (!decide (sgV none = V.str "(")) = false by decide +kernel]
      refine iteF ?_
      have glast : ∀ (l : List V) (v : V), (l ++ [v])[(l ++ [v]).length - 1]? = some v := fun l v => by rw [List.length_append]; exact List.getElem?_concat_length
      refine ⟨_, rfl, .inl ⟨rfl, _, SqL.of hp⟩, lp, _, _, rfl, rfl, hp, glast _ _, ?_⟩
      rw [List.dropLast_concat]
      obtain ⟨ov, ho, hO⟩ := t2.o
      refine q1 (os', p') _ (by rw [← eq]; cases os' <;> rfl) ⟨⟨ov, by rw [upd_ne hne]; exact ho, hO.tups fun c zs e => ?_⟩, upd_same⟩ (B.trans fun c u n1 n2 e => by rw [upd_ne n2]; exact e)
      rw [upd_ne (fun z => by rw [z, hp] at e; cases e)]
      exact e
    | some g =>
      rw [show (!decide (sgV (some g) = V.str "(")) = true by rw [decide_eq_false (sg_lp g)]; rfl]
      obtain ⟨e3, e4⟩ := e2
      obtain ⟨ov, ho, hO⟩ := t2.o
      match os', e3, e4, hO, z2, eq with
      | o :: a :: r, e3, e4, hO, z2, eq =>
        obtain ⟨us1, y, rfl, hy, us, x, rfl, hx, hr'⟩ := hO
        rw [List.length_cons, List.length_cons] at z2
        refine iteT ⟨fun σ' H' => ∃ os2, σ' = [some (.ref lo), some (.ref lp)] ∧ Two H' lo lp os2 p' ∧ enough p' os2.length ∧ os2.length ≤ 1000000 ∧ closeM p' os2 = closeM p os ∧ But2 lo lp H H', ?_, ?_⟩
        · rintro σ' H' ⟨os2, h1, h2, h3, h4, h5, h6⟩
          exact ⟨p'.length, Nat.lt_succ_self _, p', os2, rfl, h1, h2, h3, h4, h5, h6⟩
        · refine ⟨_, rfl, _, rfl, lo, lp, us, x, y, a, o, g, _, rfl, hne, ho, hx, hy, hp, by rw [hr'.len]; omega, fun H2 z k1 k2 k3 B2 => ?_⟩
          have KT := B2.tup ho hp
          have eq' : (if (mk2 g a o).2 < 7 then closeM p' (mk2 g a o :: r) else none) = closeM p os := eq
          refine ⟨_, rfl, ?_⟩
          by_cases c : (mk2 g a o).2 < 7
          · rw [if_pos c] at eq'
            rw [decide_eq_true c]
            refine iteF ?_
            exact ⟨mk2 g a o :: r, rfl, ⟨⟨_, k1, us, z, rfl, k2, hr'.tups KT⟩, k3⟩, e4, by rw [List.length_cons]; omega, eq', B.trans B2⟩
          · rw [if_neg c] at eq'
            rw [decide_eq_false c]
            refine iteT ?_
            exact q2 H2 eq'.symm (B.trans B2)
theorem ok_signed {f k1 : Addr} {fd k1d : FuncData} (F : Fun K "_law_signed" "_law_signed" sSigned f fd) (FO : Fk P w K mg base 1 "_law_fold" k1 k1d ["_law_outs", "_law_pile"] spFold) (T : Bi mg) : FnOk P w K mg base CX0 2 f fd ["_law_outs", "_law_pile", "_law_part"] spSigned := by
  refine F.ok scSigned (fun vs H Q E h => ?_) (fun cdv A outer s H vs Q E hr h => ?_)
  · obtain ⟨lo, lp, os, p, g, rfl, _⟩ := h
    rfl
  obtain ⟨lo, lp, os, p, g, rfl, hne, h2, he, hz, hz2, q1, q2⟩ := h
  refine ⟨_, (pss_cons (ps_set (i := 3) scSigned.nd rfl (Or.inl rfl) (pe_disp (pps_cons pe_str pe_int (pps_cons pe_str pe_int (pps_cons pe_str pe_int (pps_cons pe_str pe_int (pps_cons pe_str pe_int pps_nil))))) (by rfl) (by rfl) (fun z => by cases z) (by decide)))
    (pss_cons (ps_while PassesOwn.never (PW.pt (pw_and (pt_cmpR op_ne (pe_ix ix_list (pv 1) (pe_un un_neg pe_int) (fun _ _ => rfl)) pe_str (nomark _)) (pw_and1 (pt_cmpR op_ge (pe_dget (hu_of hr) (pv 3) (pe_ix ix_list (pv 1) (pe_un un_neg pe_int) (fun _ _ => rfl)) (fun _ _ => rfl)) (pe_dget (hu_of hr) (pv 3) (pv 2) (fun _ _ => rfl)) (nomark _)))))
      (pss_one (ps_if (PW.pt (pw_or (PW.pt (pw_and (pt_cmpR op_eq (pe_dget (hu_of hr) (pv 3) (pv 2) (fun _ _ => rfl)) pe_int (nomark _)) (pw_and1 (pt_cmpR op_eq (pe_dget (hu_of hr) (pv 3) (pe_ix ix_list (pv 1) (pe_un un_neg pe_int) (fun _ _ => rfl)) (fun _ _ => rfl)) pe_int (nomark _))))) (pw_or1 (pt_not (pt_val (pe_call FO.G (hr.mono (by omega)) (by rfl) FO.m FO.k FO.b .nil pass0 (pa_cons (pv 0) (pa_cons (pv 1) pa_nil))))))))
      (pss_one (ps_ret pe_bl))
      pss_nil)))
    (pss_cons (ps_expr (pe_bm PySem.F.plainAttrs_list PySem.F.slot_list_append PySem.F.type_list_append mt_append (pv 1) (pa_cons (pv 2) pa_nil)))
    (pss_one (ps_ret pe_bl))))), ?_⟩
  have hs : sizeLine = 16777216 := by decide
  refine fun d hd => ⟨upd_same, bnD, rfl, by decide, ?_⟩
  rw [upd_upd]
  have s1 := same_new hd (.dK (mergeK [] bnD))
  have hd1 : (upd H d (.dK (mergeK [] bnD))) d = some (.dK (mergeK [] bnD)) := upd_same
  generalize upd H d (.dK (mergeK [] bnD)) = H0 at s1 hd1
  obtain ⟨ov0, ho0, hO0⟩ := h2.o
  have gt : ∀ {H' : Hp} (k : Sg), H' d = some (.dK (mergeK [] bnD)) → DGet H' d (.str k.txt) (some (.int k.lv)) := fun {H'} k e => by
    have := DGet.k (k := Sum.inr k.txt) e
    rwa [bnD_at] at this
  have B0 : But2 lo lp H H0 := fun c u _ _ e => s1 _ _ e
  have h20 : Two H0 lo lp os p := ⟨⟨ov0, s1 _ _ ho0, hO0.tups fun c zs e => s1 _ _ e⟩, s1 _ _ h2.p⟩
  refine ⟨fun m σ H' => ∃ p' os', m = p'.length ∧ σ = [some (.ref lo), some (.ref lp), some (.str g.txt), some (.ref d)] ∧ Two H' lo lp os' p' ∧ enough p' os'.length ∧ os'.length ≤ 1000000 ∧ p'.length ≤ 1000000 ∧ signM g p' os' = signM g p os ∧ But2 lo lp H H' ∧ H' d = some (.dK (mergeK [] bnD)), ⟨_, p, os, rfl, rfl, h20, he, hz, hz2, rfl, B0, hd1⟩, ?_⟩
  rintro m σ H1 ⟨p', os', rfl, rfl, t2, e2, z2, zp, eq, B, hd2⟩
  have fin : signM g p' os' = some (os', p') → (pileV p').length < sizeLine ∧ Q (.bl true) (upd H1 lp (.lst (pileV p' ++ [V.str g.txt]))) := fun e => by
    refine ⟨by rw [pileV_len]; omega, ?_⟩
    obtain ⟨ov, ho, hO⟩ := t2.o
    refine q1 (os', p') _ (by rw [← eq]; exact e) ⟨⟨ov, by rw [upd_ne hne]; exact ho, hO.tups fun c zs e => ?_⟩, ?_⟩ (B.trans fun c u n1 n2 e => by rw [upd_ne n2]; exact e)
    · rw [upd_ne (fun z => by rw [z, t2.p] at e; cases e)]
      exact e
    · rw [upd_same, pileV_cons]
      rfl
  cases p' with
  | nil => exact e2.elim
  | cons x p' =>
    have hp := t2.p
    rw [pileV_cons] at hp
    refine ⟨_, rfl, _, rfl, lp, _, _, _, rfl, rfl, SqL.of hp, atI_last _ _, (by cases x <;> rfl), _, rfl, ?_⟩
    cases x with
    | none =>
      rw [show (!decide (sgV none = V.str "(")) = false by decide +kernel]
      refine iteF ?_
      refine iteF ?_
      obtain ⟨f1, f2⟩ := fin (by cases os' <;> rfl)
      refine ⟨_, rfl, .inl ⟨rfl, _, SqL.of t2.p⟩, _, rfl, lp, _, _, rfl, rfl, t2.p, f1, f2⟩
    | some k =>
      rw [show (!decide (sgV (some k) = V.str "(")) = true by rw [decide_eq_false (sg_lp k)]; rfl]
      refine iteT ?_
      refine ⟨_, rfl, _, rfl, _, rfl, lp, _, _, _, rfl, rfl, SqL.of hp, atI_last _ _, d, _, rfl, gt k hd2, _, rfl, _, rfl, d, _, rfl, gt g hd2, _, _, rfl, rfl, _, rfl, ?_⟩
      by_cases c1 : g.lv ≤ k.lv
      · rw [decide_eq_true c1]
        obtain ⟨e3, e4⟩ := e2
        obtain ⟨ov, ho, hO⟩ := t2.o
        match os', e3, e4, hO, z2, eq with
        | o :: a :: r, e3, e4, hO, z2, eq =>
          obtain ⟨us1, y, rfl, hy, us, xx, rfl, hx, hr'⟩ := hO
          rw [List.length_cons, List.length_cons] at z2
          refine iteT ⟨fun σ' H' => ∃ os2, σ' = [some (.ref lo), some (.ref lp), some (.str g.txt), some (.ref d)] ∧ Two H' lo lp os2 p' ∧ enough p' os2.length ∧ os2.length ≤ 1000000 ∧ signM g p' os2 = signM g p os ∧ But2 lo lp H H' ∧ H' d = some (.dK (mergeK [] bnD)), ?_, ?_⟩
          · rintro σ' H' ⟨os2, h1, h2, h3, h4, h5, h6, h7⟩
            rw [List.length_cons] at zp
            exact ⟨p'.length, Nat.lt_succ_self _, p', os2, rfl, h1, h2, h3, h4, by omega, h5, h6, h7⟩
          · have eq' : (if g.lv ≤ k.lv then (if g.lv = 1 ∧ k.lv = 1 then none else (if (mk2 k a o).2 < 7 then signM g p' (mk2 k a o :: r) else none)) else some (o :: a :: r, some k :: p')) = signM g p os := eq
            rw [if_pos c1] at eq'
            refine ⟨_, rfl, _, rfl, d, _, rfl, gt g hd2, rfl, _, rfl, ?_⟩
            by_cases c2 : g.lv = 1
            · rw [decide_eq_true (by rw [c2])]
              refine iteT ?_
              refine ⟨_, rfl, _, rfl, _, rfl, lp, _, _, _, rfl, rfl, SqL.of hp, atI_last _ _, d, _, rfl, gt k hd2, rfl, _, rfl, ?_⟩
              by_cases c3 : k.lv = 1
              · rw [decide_eq_true (by rw [c3])]
                refine iteT ?_
                refine iteT ?_
                rw [if_pos ⟨c2, c3⟩] at eq'
                exact q2 H1 eq'.symm B
              · rw [decide_eq_false (fun z => c3 (V.int.inj z))]
                refine iteF ?_
                rw [if_neg (fun z => c3 z.2)] at eq'
                refine ⟨_, rfl, _, rfl, lo, lp, us, xx, y, a, o, k, _, rfl, hne, ho, hx, hy, hp, by rw [hr'.len]; omega, fun H2 z k1 k2 k3 B2 => ?_⟩
                have KT := B2.tup ho hp
                have hd3 := B2 _ _ (fun z => by rw [z, ho] at hd2; cases hd2) (fun z => by rw [z, hp] at hd2; cases hd2) hd2
                refine ⟨_, rfl, ?_⟩
                by_cases c : (mk2 k a o).2 < 7
                · rw [if_pos c] at eq'
                  rw [decide_eq_true c]
                  refine iteF ?_
                  exact ⟨mk2 k a o :: r, rfl, ⟨⟨_, k1, us, z, rfl, k2, hr'.tups KT⟩, k3⟩, e4, by rw [List.length_cons]; omega, eq', B.trans B2, hd3⟩
                · rw [if_neg c] at eq'
                  rw [decide_eq_false c]
                  refine iteT ?_
                  exact q2 H2 eq'.symm (B.trans B2)
            · rw [decide_eq_false (fun z => c2 (V.int.inj z))]
              refine iteF ?_
              refine iteF ?_
              rw [if_neg (fun z => c2 z.1)] at eq'
              refine ⟨_, rfl, _, rfl, lo, lp, us, xx, y, a, o, k, _, rfl, hne, ho, hx, hy, hp, by rw [hr'.len]; omega, fun H2 z k1 k2 k3 B2 => ?_⟩
              have KT := B2.tup ho hp
              have hd3 := B2 _ _ (fun z => by rw [z, ho] at hd2; cases hd2) (fun z => by rw [z, hp] at hd2; cases hd2) hd2
              refine ⟨_, rfl, ?_⟩
              by_cases c : (mk2 k a o).2 < 7
              · rw [if_pos c] at eq'
                rw [decide_eq_true c]
                refine iteF ?_
                exact ⟨mk2 k a o :: r, rfl, ⟨⟨_, k1, us, z, rfl, k2, hr'.tups KT⟩, k3⟩, e4, by rw [List.length_cons]; omega, eq', B.trans B2, hd3⟩
              · rw [if_neg c] at eq'
                rw [decide_eq_false c]
                refine iteT ?_
                exact q2 H2 eq'.symm (B.trans B2)
      · rw [decide_eq_false c1]
        refine iteF ?_
        have c1' : ¬ g.lv ≤ k.lv := c1
        obtain ⟨f1, f2⟩ := fin (by show (if g.lv ≤ k.lv then _ else some (os', some k :: p')) = _; rw [if_neg c1'])
        refine ⟨_, rfl, .inl ⟨rfl, _, SqL.of t2.p⟩, _, rfl, lp, _, _, rfl, rfl, t2.p, f1, f2⟩
end
end SH

set_option Elab.async false
set_option linter.all false
set_option maxRecDepth 100000
namespace SH
open PySem L2
abbrev sRead : Stmt := topS 22
theorem scRead : FnScope ["_law_parts_here", "_law_outs", "_law_pile", "_law_wanted", "_law_part", "_law_one"] ["_law_parts_here"] (defScope sRead) := ⟨rfl, rfl, rfl, by decide +kernel, rfl, by decide +kernel, by decide +kernel⟩
def TOk (t : Tn) : Prop := POk (some t) ∧ ∀ s, t = .nam s → s ∉ kept
theorem readM_app : ∀ (a b : List Tn) (S : RS), readM S (a ++ b) = (readM S a).bind fun S' => readM S' b
  | [], b, S => rfl
  | t :: r, b, S => by
    show (match stepM S t with | some S' => readM S' (r ++ b) | none => none) = (match stepM S t with | some S' => readM S' r | none => none).bind _
    cases stepM S t with
    | none => rfl
    | some S' => exact readM_app r b S'
theorem readM_stop {a b : List Tn} {t : Tn} {S0 S : RS} (h : readM S0 a = some S) (e : stepM S t = none) : readM S0 (a ++ t :: b) = none := by
  rw [readM_app, h]
  show (match stepM S t with | some S' => readM S' b | none => none) = none
  rw [e]
theorem readM_go {a : List Tn} {t : Tn} {S0 S S' : RS} (h : readM S0 a = some S) (e : stepM S t = some S') : readM S0 (a ++ [t]) = some S' := by
  rw [readM_app, h]
  show (match stepM S t with | some S' => readM S' [] | none => none) = some S'
  rw [e]
  rfl
def isSg : Tn → Bool
  | .sg _ => true
  | _ => false
def sgL : List V := [.str "*", .str "+", .str "-", .str "<", .str "=="]
theorem sgL_in {t : Tn} (h : POk (some t)) : inV (.str t.txt) sgL = isSg t := by
  have key : ∀ x ∈ ["*", "+", "-", "<", "=="].map Str.ofString, t.txt = x → isSg t = true := by
    intro x hx e
    have k := pc_kinds h
    have kk : ∀ c ∈ cd x, kdC c = t.kd := fun c hc => k c (by show c ∈ cd t.txt; rw [e]; exact hc)
    cases t with
    | sg g => rfl
    | lp =>
      exfalso
      have : ∀ x ∈ ["*", "+", "-", "<", "=="].map Str.ofString, (Tn.lp).txt ≠ x := by decide +kernel
      exact this x hx e
    | rp =>
      exfalso
      have : ∀ x ∈ ["*", "+", "-", "<", "=="].map Str.ofString, (Tn.rp).txt ≠ x := by decide +kernel
      exact this x hx e
    | num n =>
      exfalso
      have : ∀ x ∈ ["*", "+", "-", "<", "=="].map Str.ofString, ∃ c ∈ cd x, kdC c ≠ 1 := by decide +kernel
      obtain ⟨c, hc, hn⟩ := this x hx
      exact hn (kk c hc)
    | nam n =>
      exfalso
      have : ∀ x ∈ ["*", "+", "-", "<", "=="].map Str.ofString, ∃ c ∈ cd x, kdC c ≠ 0 := by decide +kernel
      obtain ⟨c, hc, hn⟩ := this x hx
      exact hn (kk c hc)
  show inV (.str t.txt) ((["*", "+", "-", "<", "=="].map Str.ofString).map V.str) = _
  rw [inV_str]
  by_cases c : t.txt ∈ ["*", "+", "-", "<", "=="].map Str.ofString
  · rw [decide_eq_true c, key _ c rfl]
  · rw [decide_eq_false c]
    cases t with
    | sg g => exfalso; apply c; cases g <;> decide +kernel
    | _ => rfl
theorem tx_lp {t : Tn} (h : POk (some t)) : t.txt = ("(" : Str) ↔ t = .lp := by
  constructor
  · intro e
    by_cases c : t = .lp
    · exact c
    · exact absurd (show 40 ∈ cd t.txt by rw [e, cd_lp]; exact List.mem_cons_self) ((pc_clean h).1 (fun z => c (Option.some.inj z)))
  · intro e; rw [e]; rfl
theorem tx_rp {t : Tn} (h : POk (some t)) : t.txt = (")" : Str) ↔ t = .rp := by
  constructor
  · intro e
    by_cases c : t = .rp
    · exact c
    · exact absurd (show 41 ∈ cd t.txt by rw [e, cd_rp]; exact List.mem_cons_self) ((pc_clean h).2 (fun z => c (Option.some.inj z)))
  · intro e; rw [e]; rfl
theorem tx_head {t : Tn} (h : POk (some t)) : ∃ c r, cd t.txt = c :: r ∧ kdC c = t.kd := by
  cases e : cd t.txt with
  | nil => exact absurd e (pc_ne h)
  | cons c r => exact ⟨c, r, rfl, pc_kinds h c (by show c ∈ cd t.txt; rw [e]; exact List.mem_cons_self)⟩
theorem tx_len {t : Tn} (h : POk (some t)) : t.txt.length ≤ 30 := by
  rw [← cd_len]
  cases t with
  | lp => rw [show cd (Tn.lp).txt = [40] from cd_lp]; decide
  | rp => rw [show cd (Tn.rp).txt = [41] from cd_rp]; decide
  | sg g => rw [show cd (Tn.sg g).txt = _ from cd_sg g]; cases g <;> decide
  | num n => rw [show cd (Tn.num n).txt = _ from cd_num h.1]; exact num_len h.1 h.2
  | nam s => have := h.2.1; show (cd s).length ≤ 30; omega
theorem txv_lp {t : Tn} (h : POk (some t)) : decide (V.str t.txt = V.str "(") = isLp t := by
  cases t with
  | lp => exact decide_eq_true rfl
  | _ => exact decide_eq_false fun z => by have := (tx_lp h).mp (V.str.inj z); cases this
theorem txv_rp {t : Tn} (h : POk (some t)) : decide (V.str t.txt = V.str ")") = isRp t := by
  cases t with
  | rp => exact decide_eq_true rfl
  | _ => exact decide_eq_false fun z => by have := (tx_rp h).mp (V.str.inj z); cases this
theorem Two.same {H H' : Hp} {lo lp : Addr} {os : List Ot} {p : Pile} (h : Two H lo lp os p) (s : Same H H') : Two H' lo lp os p :=
  let ⟨ov, a, b⟩ := h.o; ⟨⟨ov, s _ _ a, b.tups fun c zs e => s _ _ e⟩, s _ _ h.p⟩
theorem cnt_pile (p : Pile) : ((pileV p).filter fun v => decide (v = .str "(")).length = cntN p := by
  unfold pileV cntN
  rw [List.filter_reverse, List.length_reverse, List.filter_map, List.length_map]
  congr 1
  refine List.filter_congr fun x _ => ?_
  cases x with
  | none => show decide (V.str "(" = V.str "(") = true; exact decide_eq_true rfl
  | some g => exact decide_eq_false (sg_lp g)
theorem sign_len (g : Sg) : ∀ (p : Pile) (os : List Ot) (x : List Ot × Pile), signM g p os = some x → x.1.length ≤ os.length ∧ x.2.length ≤ p.length
  | [], os, x, h => by cases h
  | none :: p, os, x, h => by cases h; exact ⟨Nat.le_refl _, Nat.le_refl _⟩
  | some k :: p, os, x, h => by
    have h' : (if g.lv ≤ k.lv then (if g.lv = 1 ∧ k.lv = 1 then none else match os with
      | o :: a :: r => if (mk2 k a o).2 < 7 then signM g p (mk2 k a o :: r) else none
      | _ => none) else some (os, some k :: p)) = some x := h
    split at h'
    · split at h'
      · cases h'
      · split at h'
        · split at h'
          · have := sign_len g p _ x h'
            rw [List.length_cons] at this
            rw [List.length_cons, List.length_cons, List.length_cons]
            omega
          · cases h'
        · cases h'
    · cases h'; exact ⟨Nat.le_refl _, Nat.le_refl _⟩
theorem close_len : ∀ (p : Pile) (os : List Ot) (x : List Ot × Pile), closeM p os = some x → x.1.length ≤ os.length ∧ x.2.length ≤ p.length
  | [], os, x, h => by cases os <;> cases h
  | none :: p, os, x, h => by
    have h' : some (os, p) = some x := by rw [← h]; cases os <;> rfl
    cases h'
    exact ⟨Nat.le_refl _, Nat.le_succ _⟩
  | some k :: p, [], x, h => by cases h
  | some k :: p, [o], x, h => by cases h
  | some k :: p, o :: a :: r, x, h => by
    have h' : (if (mk2 k a o).2 < 7 then closeM p (mk2 k a o :: r) else none) = some x := h
    split at h'
    · have := close_len p _ x h'
      rw [List.length_cons] at this
      rw [List.length_cons, List.length_cons, List.length_cons]
      omega
    · cases h'
def optTr (H : Hp) (o : Option Ex) (v : V) : Prop := match o with
  | some e => TrIn H e v
  | none => v = .non
def spRead : Sp := fun vs H Q _ => ∃ (a : Addr) (ts : List Tn), vs = [.ref a] ∧ H a = some (.lst (ts.map fun t => V.str t.txt)) ∧ (∀ t ∈ ts, TOk t) ∧ ts.length ≤ 500000 ∧
  ∀ v H', Same H H' → optTr H' (resM ts) v → Q v H'
section
variable {P : Program} {w : World} {K : PySem.W.Frag} {mg : Str → Option Value} {base : Heap}
theorem ok_read {f k1 k2 k3 k4 : Addr} {fd k1d k2d k3d k4d : FuncData} (F : Fun K "_law_read" "_law_read" sRead f fd) (KI : Fk P w K mg base 1 "_law_kind" k1 k1d ["_law_sign"] spKind) (TI : Fk P w K mg base 2 "_law_is_title" k2 k2d ["_law_part"] spTitle)
    (SI' : Fk P w K mg base 2 "_law_signed" k3 k3d ["_law_outs", "_law_pile", "_law_part"] spSigned) (CL : Fk P w K mg base 2 "_law_closed" k4 k4d ["_law_outs", "_law_pile"] spClosed) (T : Bi mg) : FnOk P w K mg base CX0 3 f fd ["_law_parts_here"] spRead := by
  refine F.ok scRead (fun vs H Q E h => ?_) (fun cdv A outer s H vs Q E hr h => ?_)
  · obtain ⟨a, ts, rfl, _⟩ := h
    rfl
  obtain ⟨a, ts, rfl, ha, ho, hz, q⟩ := h
  refine ⟨_, (pss_cons (ps_par (i := 1) (j := 2) rfl scRead.nd rfl rfl (by decide) rfl rfl (pa_cons (pe_lst pa_nil) (pa_cons (pe_lst (pa_cons pe_str pa_nil)) pa_nil)) (by rfl))
    (pss_cons (ps_set (i := 3) scRead.nd rfl (Or.inl rfl) pe_bl)
    (pss_cons (ps_for PassesOwn.never rfl (pi_list (pe_op op_cat (pv 0) (pe_lst (pa_cons pe_str pa_nil)))) (pg_name (i := 4) scRead.nd rfl (.inl rfl))
      (pss_cons (ps_if (pt_cmpR (SH.op_eqNil hr.units) (pv 2) (pe_lst pa_nil) (nomark _))
      (pss_one (ps_ret pe_non))
      pss_nil)
    (pss_one (ps_if (PW.pt (pw_and (pt_val (pv 3)) (pw_and (pt_cmpR op_eq (pv 4) pe_str (nomark _)) (pw_and1 (pt_cmpR op_lt (pe_callB call_len_seq (by rfl) T.len (by decide +kernel) (pa_cons (pe_lc (own := [("_law_one", 5)]) (g := gName 5) (by rfl) scRead.nd (pi_list (pv 2)) (blkOk_by (own := [("_law_one", 5)]) (N := ["_law_parts_here", "_law_outs", "_law_pile", "_law_wanted", "_law_part", "_law_one"]) (sc := defScope sRead) (by decide +kernel)) (fun _ _ _ _ _ => pg_name (i := 5) scRead.nd rfl (Or.inl rfl)) (fun _ _ _ _ _ => (pts_one (pt_cmpR op_eq (pv 5) pe_str (nomark _)))) (fun _ _ _ _ _ => (pv 5))) pa_nil)) pe_int (nomark _))))))
      (pss_one (ps_expr (pe_bm PySem.F.plainAttrs_list PySem.F.slot_list_append PySem.F.type_list_append mt_append (pv 2) (pa_cons pe_str pa_nil))))
      (pss_one (ps_if (PW.pt (pw_and (pt_val (pv 3)) (pw_and1 (pt_cmpR op_eq (pe_call KI.G (hr.mono (by omega)) (by rfl) KI.m KI.k KI.b .nil pass0 (pa_cons (pe_ix ix_str (pv 4) pe_int (fun _ _ => rfl)) pa_nil)) pe_int (nomark _)))))
      (pss_cons (ps_expr (pe_bm PySem.F.plainAttrs_list PySem.F.slot_list_append PySem.F.type_list_append mt_append (pv 1) (pa_cons (pe_tup (pa_cons (pe_tup (pa_cons pe_str (pa_cons (pe_callTy call_int_str (by rfl) T.int (by decide +kernel) (pa_cons (pv 4) pa_nil)) pa_nil))) (pa_cons pe_int pa_nil))) pa_nil)))
    (pss_one (ps_set (i := 3) scRead.nd rfl (Or.inl rfl) pe_bl)))
      (pss_one (ps_if (PW.pt (pw_and (pt_val (pv 3)) (pw_and1 (pt_val (pe_call TI.G (hr.mono (by omega)) (by rfl) TI.m TI.k TI.b .nil pass0 (pa_cons (pv 4) pa_nil))))))
      (pss_cons (ps_expr (pe_bm PySem.F.plainAttrs_list PySem.F.slot_list_append PySem.F.type_list_append mt_append (pv 1) (pa_cons (pe_tup (pa_cons (pe_tup (pa_cons pe_str (pa_cons (pv 4) pa_nil))) (pa_cons pe_int pa_nil))) pa_nil)))
    (pss_one (ps_set (i := 3) scRead.nd rfl (Or.inl rfl) pe_bl)))
      (pss_one (ps_if (PW.pt (pw_and (pt_not (pt_val (pv 3))) (pw_and (pt_cmpR op_in_seq (pv 4) (pe_lst (pa_cons pe_str (pa_cons pe_str (pa_cons pe_str (pa_cons pe_str (pa_cons pe_str pa_nil)))))) rfl) (pw_and1 (pt_val (pe_call SI'.G (hr.mono (by omega)) (by rfl) SI'.m SI'.k SI'.b .nil pass0 (pa_cons (pv 1) (pa_cons (pv 2) (pa_cons (pv 4) pa_nil)))))))))
      (pss_one (ps_set (i := 3) scRead.nd rfl (Or.inl rfl) pe_bl))
      (pss_one (ps_if (PW.pt (pw_or (pt_val (pv 3)) (pw_or (pt_cmpR op_ne (pv 4) pe_str (nomark _)) (pw_or1 (pt_not (pt_val (pe_call CL.G (hr.mono (by omega)) (by rfl) CL.m CL.k CL.b .nil pass0 (pa_cons (pv 1) (pa_cons (pv 2) pa_nil)))))))))
      (pss_one (ps_ret pe_non))
      pss_nil))))))))))))
    (pss_one (ps_ret (pe_ifExp (pt_cmpR (SH.op_eqNil hr.units) (pv 2) (pe_lst pa_nil) (nomark _)) (pe_ix ix_tup (pe_ix ix_list (pv 1) pe_int (fun _ _ => rfl)) pe_int (fun _ _ => rfl)) pe_non)))))), ?_⟩
  have hs : sizeLine = 16777216 := by decide
  refine ⟨Nat.zero_le _, fun lo nlo => ?_⟩
  refine ⟨by decide, fun lp nlp => ?_⟩
  have S1 := same_new nlo (.lst [])
  have S2 := same_new nlp (.lst [.str "("])
  have no1 : lo ≠ lp := fun z => by rw [z, upd_same] at nlp; cases nlp
  have nlp0 : H lp = none := S1.free nlp
  have t0 : Two (upd (upd H lo (.lst [])) lp (.lst [.str "("])) lo lp [] [none] := ⟨⟨[], by rw [upd_ne no1, upd_same], rfl⟩, upd_same⟩
  have S12 := S1.trans S2
  generalize upd (upd H lo (.lst [])) lp (.lst [.str "("]) = H1 at S2 t0 S12
  refine ⟨_, _, rfl, ?_⟩
  refine ⟨_, rfl, by decide, fun l3 n3 => ?_⟩
  have S3 := same_new n3 (.lst [.str ")"])
  have t3 : (upd H1 l3 (.lst [.str ")"])) l3 = some (.lst [.str ")"]) := upd_same
  generalize upd H1 l3 (.lst [.str ")"]) = H2 at S3 t3
  have ha2 := S3 _ _ (S12 _ _ ha)
  refine ⟨_, _, _, _, rfl, rfl, ha2, t3, by rw [List.length_map]; show ts.length + 1 ≤ sizeLine; omega, fun l4 n4 => ?_⟩
  have S4 := same_new n4 (.lst (ts.map (fun t => V.str t.txt) ++ [.str ")"]))
  have t4 : (upd H2 l4 (.lst (ts.map (fun t => V.str t.txt) ++ [.str ")"]))) l4 = some (.lst (ts.map (fun t => V.str t.txt) ++ [.str ")"])) := upd_same
  generalize upd H2 l4 (.lst (ts.map (fun t => V.str t.txt) ++ [.str ")"])) = H3 at S4 t4
  have el : ts.map (fun t => V.str t.txt) ++ [.str ")"] = (ts ++ [Tn.rp]).map fun t => V.str t.txt := by rw [List.map_append]; rfl
  rw [el] at t4
  have n4o : l4 ≠ lo := fun z => by
    obtain ⟨ov, e, _⟩ := t0.o
    rw [z, S3 _ _ e] at n4
    cases n4
  have n4p : l4 ≠ lp := fun z => by rw [z, S3 _ _ t0.p] at n4; cases n4
  have S34 := S3.trans S4
  have t03 : Two H3 lo lp [] [none] := by
    obtain ⟨ov, e, f⟩ := t0.o
    exact ⟨⟨ov, S34 _ _ e, f⟩, S34 _ _ t0.p⟩
  have S03 := S12.trans S34
  have ho' : ∀ t ∈ ts ++ [Tn.rp], TOk t := fun t ht => by
    rcases List.mem_append.mp ht with h | h
    · exact ho t h
    · rw [List.mem_singleton.mp h]; exact ⟨trivial, fun s z => by cases z⟩
  refine ⟨l4, rfl, ⟨_, SqL.of t4⟩, for_list (K := K) (xs := (ts ++ [Tn.rp]).map fun t => V.str t.txt) (fun i σ H' => ∃ (S : RS) (c : Nat) (x y : Option V), σ = [some (.ref a), some (.ref lo), some (.ref lp), some (.bl S.w), x, y] ∧ readM RS0 ((ts ++ [Tn.rp]).take i) = some S ∧ SI S c ∧ Two H' lo lp S.outs S.pile ∧
    Same H H' ∧ H' l4 = some (.lst ((ts ++ [Tn.rp]).map fun t => V.str t.txt)) ∧ S.outs.length ≤ i ∧ S.pile.length ≤ i + 1) ?_ (fun i σ H' _ h => by obtain ⟨S, c, x, y, _, _, _, _, _, h, _⟩ := h; exact SqL.of h) ?_ ?_⟩
  · exact ⟨RS0, 1, _, _, rfl, rfl, SI0, t03, S03, t4, Nat.le_refl _, Nat.le_refl _⟩
  · rintro i x σ H4 hx ⟨S, c, x0, y0, rfl, hR, hI, h2, S4', h4, z1, z2⟩
    rw [List.getElem?_map] at hx
    cases hxi : (ts ++ [Tn.rp])[i]? with
    | none => rw [hxi] at hx; cases hx
    | some t =>
      rw [hxi] at hx
      cases hx
      have htk := ho' t (List.mem_of_getElem? hxi)
      have hpo := htk.1
      have hil : i < (ts ++ [Tn.rp]).length := (List.getElem?_eq_some_iff.mp hxi).1
      rw [List.length_append] at hil
      have hil' : i < ts.length + 1 := hil
      have hsp : ts ++ [Tn.rp] = (ts ++ [Tn.rp]).take i ++ t :: (ts ++ [Tn.rp]).drop (i + 1) := by
        rw [List.getElem?_eq_some_iff] at hxi
        obtain ⟨h1, h2⟩ := hxi
        rw [← h2, ← List.drop_eq_getElem_cons h1, List.take_append_drop]
      have stop : stepM S t = none → ∀ H', Same H H' → Q .non H' := fun e H' s => by
        refine q _ _ s ?_
        have : resM ts = none := by
          unfold resM
          rw [hsp, readM_stop hR e]
        rw [this]
        exact (rfl : V.non = V.non)
      have goon : ∀ S' H' (x y : Option V) (wv : V), stepM S t = some S' → wv = .bl S'.w → Two H' lo lp S'.outs S'.pile → Same H H' → H' l4 = some (.lst ((ts ++ [Tn.rp]).map fun t => V.str t.txt)) → S'.outs.length ≤ S.outs.length + 1 → S'.pile.length ≤ S.pile.length + 1 →
          ∃ (S : RS) (c : Nat) (x' y' : Option V), [some (.ref a), some (.ref lo), some (.ref lp), some wv, x, y] = [some (.ref a), some (.ref lo), some (.ref lp), some (.bl S.w), x', y'] ∧ readM RS0 ((ts ++ [Tn.rp]).take (i + 1)) = some S ∧ SI S c ∧ Two H' lo lp S.outs S.pile ∧
            Same H H' ∧ H' l4 = some (.lst ((ts ++ [Tn.rp]).map fun t => V.str t.txt)) ∧ S.outs.length ≤ i + 1 ∧ S.pile.length ≤ i + 1 + 1 := fun S' H' x y wv e ew h1 h2 h3 h5 h6 =>
        ⟨S', _, x, y, by rw [ew], by rw [List.take_add_one, hxi]; exact readM_go hR e, step_ok hI e, h1, h2, h3, by omega, by omega⟩
      obtain ⟨c1, r1, ec1, ek1⟩ := tx_head hpo
      have htl := tx_len hpo
      have at0 : atI t.txt.cps.toList 0 = some c1 := by show atI (cd t.txt) 0 = _; rw [ec1]; exact atI_nat (j := 0) rfl
      refine ⟨_, rfl, Nat.zero_le _, fun l5 n5 => ⟨lp, l5, _, rfl, rfl, SqL.of (same_new n5 _ _ _ h2.p), SqL.of upd_same, _, rfl, ?_⟩⟩
      have S5 := same_new n5 (.lst [])
      have h25 := h2.same S5
      have h45 := S5 _ _ h4
      have S45 := S4'.trans S5
      generalize upd H4 l5 (.lst []) = H5 at S5 h25 h45 S45
      obtain ⟨outs, pile, wv⟩ := S
      cases pile with
      | nil =>
        refine iteT ?_
        exact stop rfl _ S45
      | cons px pt =>
        rw [show (pileV (px :: pt)).isEmpty = false by rw [pileV_cons]; cases pileV pt <;> rfl]
        refine iteF ?_
        cases wv with
        | true =>
          refine ⟨_, rfl, _, rfl, ?_⟩
          refine iteT ?_
          refine ⟨_, rfl, rfl, _, rfl, ?_⟩
          rw [txv_lp hpo]
          cases t with
          | lp =>
            have hk1 : (Tn.lp).kd ≠ 1 := by decide
            have hk0 : (Tn.lp).kd ≠ 0 := by decide
            refine iteT ?_
            refine ⟨_, rfl, lp, rfl, ⟨_, SqL.of h25.p⟩, fun D hD => ?_⟩
            refine lc_list (K := K) (a := lp) (xs := pileV (px :: pt)) (fun j H' => H' D = some (.lst (((pileV (px :: pt)).take j).filter fun v => decide (v = .str "("))) ∧ Same H5 H') ⟨upd_same, same_new hD _⟩ (fun j H' _ h => SqL.of (h.2 _ _ h25.p)) ?_ ?_
            · rintro j x H6 hx ⟨d6, S6⟩
              refine ⟨rfl, ?_⟩
              obtain ⟨y, _, rfl⟩ : ∃ y, y ∈ (px :: pt) ∧ x = sgV y := by
                have := List.mem_of_getElem? hx
                unfold pileV at this
                obtain ⟨y, h1, h2⟩ := List.mem_map.mp (List.mem_reverse.mp this)
                exact ⟨y, h1, h2.symm⟩
              have htk : (pileV (px :: pt)).take (j + 1) = (pileV (px :: pt)).take j ++ [sgV y] := by rw [List.take_add_one, hx]; rfl
              refine ⟨_, rfl, (by cases y <;> rfl), _, rfl, ?_⟩
              by_cases cy : sgV y = .str "("
              · rw [decide_eq_true cy]
                refine iteT ⟨_, rfl, _, d6, ?_, ?_, fun b u e => ?_⟩
                · have h1 := List.length_filter_le (fun v => decide (v = V.str "(")) ((pileV (px :: pt)).take j)
                  rw [List.length_take, pileV_len] at h1
                  have z2' : (px :: pt).length ≤ i + 1 := z2
                  omega
                · rw [upd_same, htk, List.filter_append]
                  congr 3
                  show [sgV y] = List.filter _ [sgV y]
                  rw [List.filter_cons, if_pos (decide_eq_true cy)]
                  rfl
                · rw [upd_ne (ne_of_none e hD)]; exact S6 _ _ e
              · rw [decide_eq_false cy]
                refine iteF ⟨?_, S6⟩
                rw [htk, List.filter_append, show List.filter (fun v => decide (v = V.str "(")) [sgV y] = [] by rw [List.filter_cons, if_neg (by rw [decide_eq_false cy]; exact Bool.false_ne_true)]; rfl, List.append_nil]
                exact d6
            · rintro H6 ⟨d6, S6⟩
              rw [List.take_length] at d6
              refine ⟨D, _, rfl, .inl (SqL.of d6), _, _, rfl, rfl, _, rfl, ?_⟩
              rw [cnt_pile]
              have h25' := h25.same S6
              have h45' := S6 _ _ h45
              have S45' := S45.trans S6
              by_cases c9 : cntN (px :: pt) < 9
              · rw [decide_eq_true (by omega)]
                refine iteT ?_
                refine ⟨_, rfl, .inl ⟨rfl, _, SqL.of h25'.p⟩, lp, _, _, rfl, rfl, h25'.p, by rw [pileV_len]; omega, ?_⟩
                obtain ⟨ov, k1, k2⟩ := h25'.o
                have tk : ∀ c zs, H6 c = some (.tup zs) → (upd H6 lp (.lst (pileV (px :: pt) ++ [.str "("]))) c = some (.tup zs) := fun c zs e => by rw [upd_ne (fun z => by rw [z, h25'.p] at e; cases e)]; exact e
                refine goon ⟨outs, none :: px :: pt, true⟩ _ _ _ _ (step_lp (by intro h; cases h) c9) rfl ⟨⟨ov, by rw [upd_ne no1]; exact k1, k2.tups tk⟩, by rw [upd_same, pileV_cons none]; rfl⟩ (fun b u e => ?_) ?_ (Nat.le_succ _) (Nat.le_refl _)
                · rw [upd_ne (fun z => by rw [z, nlp0] at e; cases e)]; exact S45' _ _ e
                · rw [upd_ne n4p]; exact h45'
              · rw [decide_eq_false (by omega)]
                refine iteF ?_
                have st : stepM ⟨outs, px :: pt, true⟩ .lp = none := by show (if cntN (px :: pt) < 9 then _ else none) = none; rw [if_neg c9]
                clear h25 h45 S45
                rename Two H6 lo lp _ _ => h25
                have h45 := h45'
                have S45 := S45'
                refine ⟨_, rfl, _, rfl, ?_⟩
                refine iteT ?_
                refine ⟨_, rfl, _, 0, c1, rfl, rfl, by omega, at0, c1, rfl, fun H6 S6 => ⟨rfl, _, rfl, ?_⟩⟩
                rw [ek1]
                have h26 := h25.same S6
                have h46 := S6 _ _ h45
                have S46 := S45.trans S6
                rw [decide_eq_false (fun z => hk1 (V.int.inj z))]
                refine iteF ?_
                refine ⟨_, rfl, _, rfl, ?_⟩
                refine iteT ?_
                refine ⟨_, rfl, _, c1, r1, rfl, ec1, by omega, fun H7 S7 => ⟨_, rfl, ?_⟩⟩
                rw [ek1]
                have h27 := h26.same S7
                have h47 := S7 _ _ h46
                have S47 := S46.trans S7
                rw [decide_eq_false hk0, Bool.false_and]
                refine iteF ?_
                refine ⟨_, rfl, _, rfl, ?_⟩
                refine iteF ?_
                refine iteF ?_
                refine ⟨_, rfl, _, rfl, ?_⟩
                refine iteT ?_
                refine iteT ?_
                exact stop st _ S47
          | num n =>
            refine iteF ?_
            refine iteF ?_
            refine ⟨_, rfl, _, rfl, ?_⟩
            refine iteT ?_
            refine ⟨_, rfl, _, 0, c1, rfl, rfl, by omega, at0, c1, rfl, fun H6 S6 => ⟨rfl, _, rfl, ?_⟩⟩
            rw [ek1]
            have h26 := h25.same S6
            have h46 := S6 _ _ h45
            have S46 := S45.trans S6
            rw [decide_eq_true (show V.int (Tn.num n).kd = V.int 1 from rfl)]
            refine iteT ?_
            obtain ⟨ov0, k01, _⟩ := h26.o
            refine ⟨_, rfl, .inl ⟨rfl, _, SqL.of k01⟩, _, rfl, _, n, rfl, ?_, by omega, ?_⟩
            · have h0 : 0 ≤ n := hpo.1
              have e : n = ((n.toNat : Nat) : Int) := by omega
              have := TL.int_num (n := n.toNat) (Nat.le_trans (num_len hpo.1 hpo.2) (by decide))
              rw [← e] at this
              exact this
            refine ⟨(by show 2 ≤ sizeLine; decide), fun p np => ⟨(by show 2 ≤ sizeLine; decide), fun p2 np2 => ?_⟩⟩
            have S8 := same_new np (.tup [.str "number", .int n])
            have S9 := same_new np2 (.tup [.ref p, .int 1])
            have S89 := S8.trans S9
            have T9 := h26.same S89
            have hp9 : (upd (upd H6 p (.tup [.str "number", .int n])) p2 (.tup [.ref p, .int 1])) p = some (.tup [.str "number", .int n]) := S9 _ _ upd_same
            have hp29 : (upd (upd H6 p (.tup [.str "number", .int n])) p2 (.tup [.ref p, .int 1])) p2 = some (.tup [.ref p, .int 1]) := upd_same
            have S19 := S46.trans S89
            have h49 := S89 _ _ h46
            generalize upd (upd H6 p (.tup [.str "number", .int n])) p2 (.tup [.ref p, .int 1]) = H9 at S89 T9 hp9 hp29 S19 h49
            obtain ⟨ov, k1, k2⟩ := T9.o
            refine ⟨lo, _, _, rfl, rfl, k1, by rw [k2.len]; omega, ?_⟩
            have tk : ∀ c zs, H9 c = some (.tup zs) → (upd H9 lo (.lst (ov ++ [.ref p2]))) c = some (.tup zs) := fun c zs e => by rw [upd_ne (fun z => by rw [z, k1] at e; cases e)]; exact e
            refine goon ⟨(.num n, 1) :: outs, px :: pt, false⟩ _ _ _ _ rfl rfl ⟨⟨_, upd_same, ov, .ref p2, rfl, ⟨p2, .ref p, rfl, tk _ _ hp29, p, rfl, tk _ _ hp9⟩, k2.tups tk⟩, ?_⟩ (fun b u e => ?_) ?_ (Nat.le_refl _) (Nat.le_succ _)
            · rw [upd_ne no1.symm]; exact T9.p
            · rw [upd_ne (fun z => by rw [z, nlo] at e; cases e)]; exact S19 _ _ e
            · rw [upd_ne n4o]; exact h49
          | nam s =>
            have hk1 : (Tn.nam s).kd ≠ 1 := by show (0 : Int) ≠ 1; decide
            refine iteF ?_
            refine iteF ?_
            refine ⟨_, rfl, _, rfl, ?_⟩
            refine iteT ?_
            refine ⟨_, rfl, _, 0, c1, rfl, rfl, by omega, at0, c1, rfl, fun H6 S6 => ⟨rfl, _, rfl, ?_⟩⟩
            rw [ek1]
            have h26 := h25.same S6
            have h46 := S6 _ _ h45
            have S46 := S45.trans S6
            rw [decide_eq_false (fun z => hk1 (V.int.inj z))]
            refine iteF ?_
            refine ⟨_, rfl, _, rfl, ?_⟩
            refine iteT ?_
            refine ⟨_, rfl, _, c1, r1, rfl, ec1, by omega, fun H7 S7 => ⟨_, rfl, ?_⟩⟩
            rw [ek1]
            have h27 := h26.same S7
            have h47 := S7 _ _ h46
            have S47 := S46.trans S7
            have hnk : s ∉ kept := htk.2 s rfl
            rw [show (decide ((Tn.nam s).kd = 0) && !decide ((Tn.nam s).txt ∈ kept)) = true by rw [decide_eq_true (show (Tn.nam s).kd = 0 from rfl), show decide ((Tn.nam s).txt ∈ kept) = false from decide_eq_false hnk]; rfl]
            refine iteT ?_
            obtain ⟨ov0, k01, _⟩ := h27.o
            refine ⟨_, rfl, .inl ⟨rfl, _, SqL.of k01⟩, _, rfl, ?_⟩
            refine ⟨(by show 2 ≤ sizeLine; decide), fun p np => ⟨(by show 2 ≤ sizeLine; decide), fun p2 np2 => ?_⟩⟩
            have S8 := same_new np (.tup [.str "name", (fun t : Tn => V.str t.txt) (Tn.nam s)])
            have S9 := same_new np2 (.tup [.ref p, .int 1])
            have S89 := S8.trans S9
            have T9 := h27.same S89
            have hp9 : (upd (upd H7 p (.tup [.str "name", (fun t : Tn => V.str t.txt) (Tn.nam s)])) p2 (.tup [.ref p, .int 1])) p = some (.tup [.str "name", .str s]) := S9 _ _ upd_same
            have hp29 : (upd (upd H7 p (.tup [.str "name", (fun t : Tn => V.str t.txt) (Tn.nam s)])) p2 (.tup [.ref p, .int 1])) p2 = some (.tup [.ref p, .int 1]) := upd_same
            have S19 := S47.trans S89
            have h49 := S89 _ _ h47
            generalize upd (upd H7 p (.tup [.str "name", (fun t : Tn => V.str t.txt) (Tn.nam s)])) p2 (.tup [.ref p, .int 1]) = H9 at S89 T9 hp9 hp29 S19 h49
            obtain ⟨ov, k1, k2⟩ := T9.o
            refine ⟨lo, _, _, rfl, rfl, k1, by rw [k2.len]; omega, ?_⟩
            have tk : ∀ c zs, H9 c = some (.tup zs) → (upd H9 lo (.lst (ov ++ [.ref p2]))) c = some (.tup zs) := fun c zs e => by rw [upd_ne (fun z => by rw [z, k1] at e; cases e)]; exact e
            refine goon ⟨(.nam s, 1) :: outs, px :: pt, false⟩ _ _ _ _ rfl rfl ⟨⟨_, upd_same, ov, .ref p2, rfl, ⟨p2, .ref p, rfl, tk _ _ hp29, p, rfl, tk _ _ hp9⟩, k2.tups tk⟩, ?_⟩ (fun b u e => ?_) ?_ (Nat.le_refl _) (Nat.le_succ _)
            · rw [upd_ne no1.symm]; exact T9.p
            · rw [upd_ne (fun z => by rw [z, nlo] at e; cases e)]; exact S19 _ _ e
            · rw [upd_ne n4o]; exact h49
          | rp =>
            have hk1 : (Tn.rp).kd ≠ 1 := by decide
            have hk0 : (Tn.rp).kd ≠ 0 := by decide
            refine iteF ?_
            refine iteF ?_
            refine ⟨_, rfl, _, rfl, ?_⟩
            refine iteT ?_
            refine ⟨_, rfl, _, 0, c1, rfl, rfl, by omega, at0, c1, rfl, fun H6 S6 => ⟨rfl, _, rfl, ?_⟩⟩
            rw [ek1]
            have h26 := h25.same S6
            have h46 := S6 _ _ h45
            have S46 := S45.trans S6
            rw [decide_eq_false (fun z => hk1 (V.int.inj z))]
            refine iteF ?_
            refine ⟨_, rfl, _, rfl, ?_⟩
            refine iteT ?_
            refine ⟨_, rfl, _, c1, r1, rfl, ec1, by omega, fun H7 S7 => ⟨_, rfl, ?_⟩⟩
            rw [ek1]
            have h27 := h26.same S7
            have h47 := S7 _ _ h46
            have S47 := S46.trans S7
            rw [decide_eq_false hk0, Bool.false_and]
            refine iteF ?_
            refine ⟨_, rfl, _, rfl, ?_⟩
            refine iteF ?_
            refine iteF ?_
            refine ⟨_, rfl, _, rfl, ?_⟩
            refine iteT ?_
            refine iteT ?_
            exact stop rfl _ S47
          | sg g =>
            have hk1 : (Tn.sg g).kd ≠ 1 := by cases g <;> decide
            have hk0 : (Tn.sg g).kd ≠ 0 := by cases g <;> decide
            refine iteF ?_
            refine iteF ?_
            refine ⟨_, rfl, _, rfl, ?_⟩
            refine iteT ?_
            refine ⟨_, rfl, _, 0, c1, rfl, rfl, by omega, at0, c1, rfl, fun H6 S6 => ⟨rfl, _, rfl, ?_⟩⟩
            rw [ek1]
            have h26 := h25.same S6
            have h46 := S6 _ _ h45
            have S46 := S45.trans S6
            rw [decide_eq_false (fun z => hk1 (V.int.inj z))]
            refine iteF ?_
            refine ⟨_, rfl, _, rfl, ?_⟩
            refine iteT ?_
            refine ⟨_, rfl, _, c1, r1, rfl, ec1, by omega, fun H7 S7 => ⟨_, rfl, ?_⟩⟩
            rw [ek1]
            have h27 := h26.same S7
            have h47 := S7 _ _ h46
            have S47 := S46.trans S7
            rw [decide_eq_false hk0, Bool.false_and]
            refine iteF ?_
            refine ⟨_, rfl, _, rfl, ?_⟩
            refine iteF ?_
            refine iteF ?_
            refine ⟨_, rfl, _, rfl, ?_⟩
            refine iteT ?_
            refine iteT ?_
            exact stop rfl _ S47
        | false =>
          refine ⟨_, rfl, _, rfl, ?_⟩
          refine iteF ?_
          refine iteF ?_
          refine ⟨_, rfl, _, rfl, ?_⟩
          refine iteF ?_
          refine iteF ?_
          refine ⟨_, rfl, _, rfl, ?_⟩
          refine iteF ?_
          refine iteF ?_
          refine ⟨_, rfl, _, rfl, ?_⟩
          refine iteT ?_
          refine ⟨_, rfl, (by show 5 ≤ sizeLine; decide), fun l6 n6 => ⟨l6, _, rfl, .inl (SqL.of upd_same), rfl, rfl, ?_⟩⟩
          rw [if_neg Bool.false_ne_true, show inV (V.str t.txt) [.str "*", .str "+", .str "-", .str "<", .str "=="] = isSg t from sgL_in hpo]
          have S6 := same_new n6 (.lst [.str "*", .str "+", .str "-", .str "<", .str "=="])
          have h26 := h25.same S6
          have h46 := S6 _ _ h45
          have S46 := S45.trans S6
          generalize upd H5 l6 (.lst [.str "*", .str "+", .str "-", .str "<", .str "=="]) = H6 at S6 h26 h46 S46
          obtain ⟨o, os, kk, d, eo, hW, _⟩ : Ni outs (px :: pt) c := hI
          have hen : enough (px :: pt) outs.length := by rw [eo]; exact hW.enough (by intro h; cases h)
          have z1' : outs.length ≤ i := z1
          have z2' : (px :: pt).length ≤ i + 1 := z2
          have sm : ∀ {H'}, But2 lo lp H6 H' → Same H H' := fun {H'} B b u e => B _ _ (fun z => by rw [z, nlo] at e; cases e) (fun z => by rw [z, nlp0] at e; cases e) (S46 _ _ e)
          have no5 : ∀ {H'}, But2 lo lp H6 H' → H' l4 = some (.lst ((ts ++ [Tn.rp]).map fun t => V.str t.txt)) := fun {H'} B => B _ _ n4o n4p h46
          refine ⟨_, rfl, ?_⟩
          cases hst : stepM ⟨outs, px :: pt, false⟩ t with
          | none =>
            cases t with
            | sg g =>
              rw [step_sg (by intro h; cases h)] at hst
              refine iteT ?_
              refine ⟨_, rfl, _, rfl, _, rfl, lo, lp, outs, px :: pt, g, rfl, no1, h26, hen, by omega, by omega, fun x H' e => ?_, fun H' e B => ⟨_, rfl, ?_⟩⟩
              · rw [e] at hst; cases hst
              refine iteF ?_
              refine ⟨_, rfl, _, rfl, ?_⟩
              refine iteF ?_
              refine ⟨_, rfl, rfl, _, rfl, ?_⟩
              rw [txv_rp hpo]
              refine iteT ?_
              refine iteT ?_
              exact stop (by rw [step_sg (by intro h; cases h)]; exact hst) _ (sm B)
            | rp =>
              rw [step_rp (by intro h; cases h)] at hst
              refine iteF ?_
              refine iteF ?_
              refine ⟨_, rfl, _, rfl, ?_⟩
              refine iteF ?_
              refine ⟨_, rfl, rfl, _, rfl, ?_⟩
              rw [txv_rp hpo]
              refine iteF ?_
              refine ⟨_, rfl, _, rfl, lo, lp, outs, px :: pt, rfl, no1, h26, hen, by omega, fun x H' e => ?_, fun H' e B => ⟨_, rfl, ?_⟩⟩
              · rw [e] at hst; cases hst
              refine iteT ?_
              exact stop (by rw [step_rp (by intro h; cases h)]; exact hst) _ (sm B)
            | lp =>
              refine iteF ?_
              refine iteF ?_
              refine ⟨_, rfl, _, rfl, ?_⟩
              refine iteF ?_
              refine ⟨_, rfl, rfl, _, rfl, ?_⟩
              rw [txv_rp hpo]
              refine iteT ?_
              refine iteT ?_
              exact stop hst _ S46
            | num n =>
              refine iteF ?_
              refine iteF ?_
              refine ⟨_, rfl, _, rfl, ?_⟩
              refine iteF ?_
              refine ⟨_, rfl, rfl, _, rfl, ?_⟩
              rw [txv_rp hpo]
              refine iteT ?_
              refine iteT ?_
              exact stop hst _ S46
            | nam n =>
              refine iteF ?_
              refine iteF ?_
              refine ⟨_, rfl, _, rfl, ?_⟩
              refine iteF ?_
              refine ⟨_, rfl, rfl, _, rfl, ?_⟩
              rw [txv_rp hpo]
              refine iteT ?_
              refine iteT ?_
              exact stop hst _ S46
          | some S' =>
            cases t with
            | sg g =>
              rw [step_sg (by intro h; cases h)] at hst
              refine iteT ?_
              refine ⟨_, rfl, _, rfl, _, rfl, lo, lp, outs, px :: pt, g, rfl, no1, h26, hen, by omega, by omega, fun x H' e t2 B => ⟨_, rfl, ?_⟩, fun H' e => ?_⟩
              · refine iteT ?_
                rw [e] at hst
                cases hst
                have hl := sign_len g _ _ _ e
                exact goon ⟨x.1, some g :: x.2, true⟩ _ _ _ _ (by rw [step_sg (by intro h; cases h), e]; rfl) rfl t2 (sm B) (no5 B) (by show x.1.length ≤ outs.length + 1; omega) (by show x.2.length + 1 ≤ (px :: pt).length + 1; omega)
              · rw [e] at hst; cases hst
            | rp =>
              rw [step_rp (by intro h; cases h)] at hst
              refine iteF ?_
              refine iteF ?_
              refine ⟨_, rfl, _, rfl, ?_⟩
              refine iteF ?_
              refine ⟨_, rfl, rfl, _, rfl, ?_⟩
              rw [txv_rp hpo]
              refine iteF ?_
              refine ⟨_, rfl, _, rfl, lo, lp, outs, px :: pt, rfl, no1, h26, hen, by omega, fun x H' e t2 B => ⟨_, rfl, ?_⟩, fun H' e => ?_⟩
              · refine iteF ?_
                rw [e] at hst
                cases hst
                have hl := close_len _ _ _ e
                exact goon ⟨x.1, x.2, false⟩ _ _ _ _ (by rw [step_rp (by intro h; cases h), e]; rfl) rfl t2 (sm B) (no5 B) (by show x.1.length ≤ outs.length + 1; omega) (by show x.2.length ≤ (px :: pt).length + 1; omega)
              · rw [e] at hst; cases hst
            | lp => cases hst
            | num n => cases hst
            | nam n => cases hst
  · rintro σ H4 ⟨S, c, x0, y0, rfl, hR, hI, h2, S4', h4, z1, z2⟩
    rw [List.length_map, List.take_length] at hR
    obtain ⟨outs, pile, wv⟩ := S
    refine ⟨_, rfl, Nat.zero_le _, fun l5 n5 => ⟨lp, l5, _, rfl, rfl, SqL.of (same_new n5 _ _ _ h2.p), SqL.of upd_same, _, rfl, ?_⟩⟩
    have S5 := same_new n5 (.lst [])
    have h25 := h2.same S5
    have S45 := S4'.trans S5
    generalize upd H4 l5 (.lst []) = H5 at S5 h25 S45
    cases pile with
    | nil =>
      refine iteT ?_
      cases wv with
      | true => exact absurd rfl hI.2
      | false =>
        obtain ⟨o, os, k, d, eo, hW, _⟩ : Ni outs [] c := hI
        cases hW
        cases eo
        obtain ⟨ov, f1, us, v, rfl, ⟨p, tv, rfl, f2, f3⟩, f4⟩ := h25.o
        have eus : us = [] := f4
        subst eus
        refine ⟨_, rfl, lo, _, _, _, rfl, rfl, SqL.of f1, atI_nat (j := 0) rfl, p, _, 0, _, rfl, rfl, SqT.of f2, atI_nat (j := 0) rfl, ?_⟩
        refine q _ _ S45 ?_
        have : resM ts = some o.1 := by
          unfold resM
          rw [hR]
        rw [this]
        exact f3
    | cons px pt =>
      rw [show (pileV (px :: pt)).isEmpty = false by rw [pileV_cons]; cases pileV pt <;> rfl]
      refine iteF ?_
      refine q _ _ S45 ?_
      have : resM ts = none := by
        unfold resM
        rw [hR]
        cases outs <;> rfl
      rw [this]
      exact (rfl : V.non = V.non)
end
end SH

set_option Elab.async false
set_option linter.all false
set_option maxRecDepth 100000
/-! Blanks between the parts: mathematics. -/
namespace SH
open PySem L2
def jn : List Tn → List Nat
  | [] => []
  | [t] => cd t.txt
  | t :: r => cd t.txt ++ 32 :: jn r
def sp1 (t : Tn) : List Nat := if isLp t = true then [] else [32]
def sp2 (t u : Tn) : List Nat := if (isLp t || isRp u) = true then [] else [32]
def k1 : List Tn → List Nat
  | [] => []
  | [t] => cd t.txt
  | t :: r => cd t.txt ++ (sp1 t ++ k1 r)
def k2 : List Tn → List Nat
  | [] => []
  | [t] => cd t.txt
  | t :: u :: r => cd t.txt ++ (sp2 t u ++ k2 (u :: r))
theorem join_jn : ∀ ts : List Tn, cd (PySem.Txt.join (" " : Str) (ts.map Tn.txt)) = jn ts := by
  have step : ∀ ts : List Tn, cd (PySem.Str.join (" " : Str) (ts.map Tn.txt)) = jn ts := by
    intro ts
    induction ts with
    | nil => rfl
    | cons a r ih =>
      cases r with
      | nil => rfl
      | cons b t =>
        show cd (a.txt ++ (" " : Str) ++ PySem.Str.join (" " : Str) ((b :: t).map Tn.txt)) = cd a.txt ++ 32 :: jn (b :: t)
        rw [cd_app, cd_app, ih, cd_bl, List.append_assoc]
        rfl
  intro ts
  show cd (Builtin.Str.glued (" " : Str) (ts.map Tn.txt)) = _
  rw [StrLaws.glued_eq_join]
  exact step ts
open StrLaws
theorem repl_free {c d : Nat} {z : List Nat} : ∀ {X Y : List Nat}, c ∉ X → replL [c, d] z (X ++ Y) = X ++ replL [c, d] z Y
  | [], _, _ => rfl
  | x :: X, Y, h => by
    rw [List.cons_append, replL_miss, repl_free (fun q => h (List.mem_cons_of_mem _ q))]
    · rfl
    · intro e
      have : x = c := (List.cons.inj e).1
      exact h (by rw [this]; exact List.mem_cons_self)
theorem repl1 : ∀ ts : List Tn, (∀ t ∈ ts, POk (some t)) → replL [40, 32] [40] (jn ts) = k1 ts
  | [], _ => replL_nil
  | [t], h => by
    show replL [40, 32] [40] (cd t.txt) = cd t.txt
    by_cases e : t = .lp
    · rw [e, show cd (Tn.lp).txt = [40] from cd_lp, replL_miss (by decide), replL_nil]
    · have := repl_free (d := 32) (z := [40]) (Y := []) ((pc_clean (h t List.mem_cons_self)).1 (fun z => e (Option.some.inj z)))
      rw [List.append_nil, replL_nil, List.append_nil] at this
      exact this
  | t :: u :: r, h => by
    have ih := repl1 (u :: r) fun x hx => h x (List.mem_cons_of_mem _ hx)
    show replL [40, 32] [40] (cd t.txt ++ 32 :: jn (u :: r)) = cd t.txt ++ (sp1 t ++ k1 (u :: r))
    by_cases e : t = .lp
    · subst e
      rw [show cd (Tn.lp).txt = [40] from cd_lp]
      show replL [40, 32] [40] (40 :: 32 :: jn (u :: r)) = 40 :: k1 (u :: r)
      rw [replL_hit (by decide) rfl]
      show 40 :: replL [40, 32] [40] (jn (u :: r)) = _
      rw [ih]
    · have hl : isLp t = false := by cases t <;> first | rfl | exact absurd rfl e
      rw [repl_free (X := cd t.txt) ((pc_clean (h t List.mem_cons_self)).1 (fun z => e (Option.some.inj z)))]
      unfold sp1
      rw [hl, if_neg Bool.false_ne_true, replL_miss (by intro z; have := (List.cons.inj z).1; omega), ih]
      rfl
theorem k1_head {u : Tn} {r : List Tn} (h : POk (some u)) : ∃ c X, cd u.txt = c :: X ∧ ∃ Y, k1 (u :: r) = c :: Y := by
  cases e : cd u.txt with
  | nil => exact absurd e (pc_ne h)
  | cons c X =>
    refine ⟨c, X, rfl, ?_⟩
    cases r with
    | nil => exact ⟨X, e⟩
    | cons v r => exact ⟨X ++ (sp1 u ++ k1 (v :: r)), by show cd u.txt ++ _ = _; rw [e]; rfl⟩
theorem repl2 : ∀ ts : List Tn, (∀ t ∈ ts, POk (some t)) → replL [32, 41] [41] (k1 ts) = k2 ts
  | [], _ => replL_nil
  | [t], h => by
    show replL [32, 41] [41] (cd t.txt) = cd t.txt
    have := repl_free (d := 41) (z := [41]) (Y := []) (pc_blank (h t List.mem_cons_self))
    rw [List.append_nil, replL_nil, List.append_nil] at this
    exact this
  | t :: u :: r, h => by
    have ih := repl2 (u :: r) fun x hx => h x (List.mem_cons_of_mem _ hx)
    have hu := h u (List.mem_cons_of_mem _ List.mem_cons_self)
    show replL [32, 41] [41] (cd t.txt ++ (sp1 t ++ k1 (u :: r))) = cd t.txt ++ (sp2 t u ++ k2 (u :: r))
    rw [repl_free (pc_blank (h t List.mem_cons_self))]
    unfold sp1 sp2
    cases hl : isLp t with
    | true =>
      rw [if_pos rfl, Bool.true_or, if_pos rfl]
      show cd t.txt ++ replL _ _ (k1 (u :: r)) = cd t.txt ++ k2 (u :: r)
      rw [ih]
    | false =>
      rw [if_neg Bool.false_ne_true, Bool.false_or]
      obtain ⟨c, X, ec, Y, ek⟩ := k1_head (r := r) hu
      cases hr : isRp u with
      | true =>
        rw [if_pos rfl]
        have eu : u = .rp := by cases u <;> first | rfl | cases hr
        subst eu
        have e41 : c = 41 := by
          rw [show cd (Tn.rp).txt = [41] from cd_rp] at ec
          exact (List.cons.inj ec).1.symm
        subst e41
        show cd t.txt ++ replL [32, 41] [41] (32 :: k1 (Tn.rp :: r)) = cd t.txt ++ k2 (Tn.rp :: r)
        rw [← ih, ek, replL_hit (by decide) rfl, replL_miss (c := 41) (by intro z; have := (List.cons.inj z).1; omega)]
        rfl
      | false =>
        rw [if_neg Bool.false_ne_true]
        show cd t.txt ++ replL [32, 41] [41] (32 :: k1 (u :: r)) = cd t.txt ++ 32 :: k2 (u :: r)
        rw [replL_miss, ih]
        rw [ek]
        intro z
        have e41 : c = 41 := by
          have := (List.cons.inj z).2
          exact (List.cons.inj this).1
        have := (pc_clean hu).2 (fun z => by
          have e := Option.some.inj z
          rw [e] at hr
          cases hr)
        exact this (by show 41 ∈ cd u.txt; rw [ec, e41]; exact List.mem_cons_self)
theorem k2_app : ∀ (A : List Tn) (t u : Tn) (B : List Tn), k2 (A ++ t :: u :: B) = k2 (A ++ [t]) ++ (sp2 t u ++ k2 (u :: B))
  | [], t, u, B => rfl
  | [a], t, u, B => by
    show cd a.txt ++ (sp2 a t ++ (cd t.txt ++ (sp2 t u ++ k2 (u :: B)))) = (cd a.txt ++ (sp2 a t ++ cd t.txt)) ++ (sp2 t u ++ k2 (u :: B))
    simp only [List.append_assoc]
  | a :: b :: A, t, u, B => by
    have ih := k2_app (b :: A) t u B
    show cd a.txt ++ (sp2 a b ++ k2 ((b :: A) ++ t :: u :: B)) = (cd a.txt ++ (sp2 a b ++ k2 ((b :: A) ++ [t]))) ++ _
    rw [ih]
    simp only [List.append_assoc]
/-- shown so, neither begun by a closing bracket nor ended by an opening one -/
def Fm (ts : List Tn) (x : List Nat) : Prop := k2 ts = x ∧ (∃ A b, ts = A ++ [b] ∧ isLp b = false) ∧ ∃ a A, ts = a :: A ∧ isRp a = false
theorem Fm.join {ts us : List Tn} {x y : List Nat} (h : Fm ts x) (k : Fm us y) : Fm (ts ++ us) (x ++ 32 :: y) := by
  obtain ⟨h1, ⟨A, b, eA, hb⟩, ⟨a, A', eA', ha⟩⟩ := h
  obtain ⟨k1, ⟨B, d, eB, hd⟩, ⟨c, B', eB', hc⟩⟩ := k
  refine ⟨?_, ⟨ts ++ B, d, by rw [eB, List.append_assoc], hd⟩, ⟨a, A' ++ us, by rw [eA']; rfl, ha⟩⟩
  rw [← h1, ← k1, eA, eB', List.append_assoc]
  show k2 (A ++ b :: c :: B') = _
  rw [k2_app]
  unfold sp2
  rw [hb, hc]
  rfl
theorem Fm.wrap {ts : List Tn} {x : List Nat} (h : Fm ts x) : Fm (Tn.lp :: (ts ++ [Tn.rp])) (40 :: (x ++ [41])) := by
  obtain ⟨h1, ⟨A, b, eA, hb⟩, ⟨a, A', eA', ha⟩⟩ := h
  refine ⟨?_, ⟨Tn.lp :: ts, .rp, rfl, rfl⟩, ⟨.lp, _, rfl, rfl⟩⟩
  have e1 : k2 (ts ++ [Tn.rp]) = x ++ [41] := by
    rw [eA, List.append_assoc]
    show k2 (A ++ b :: Tn.rp :: []) = _
    rw [k2_app, ← h1, eA]
    unfold sp2
    rw [hb]
    show _ ++ cd (Tn.rp).txt = _
    rw [show cd (Tn.rp).txt = [41] from cd_rp]
  rw [← e1, eA']
  show cd (Tn.lp).txt ++ (sp2 .lp a ++ k2 (a :: (A' ++ [Tn.rp]))) = _
  rw [show cd (Tn.lp).txt = [40] from cd_lp]
  rfl
theorem Fm.br (b : Bool) {ts : List Tn} {t : Str} (h : Fm ts (cd t)) : Fm (brT b ts) (cd (br b t)) := by
  cases b with
  | false => exact h
  | true =>
    show Fm (Tn.lp :: (ts ++ [Tn.rp])) (cd (("(" : Str) ++ t ++ (")" : Str)))
    rw [cd_app, cd_app, cd_lp, cd_rp]
    exact h.wrap
theorem Ex.fm : ∀ e : Ex, Fm e.tks (cd e.txt)
  | .num n => ⟨rfl, ⟨[], .num n, rfl, rfl⟩, ⟨.num n, [], rfl, rfl⟩⟩
  | .nam n => ⟨rfl, ⟨[], .nam n, rfl, rfl⟩, ⟨.nam n, [], rfl, rfl⟩⟩
  | .op g l r => by
    have h1 := Fm.br (lB g l) (Ex.fm l)
    have h2 := Fm.br (rB g r) (Ex.fm r)
    have hg : Fm [Tn.sg g] (cd g.txt) := ⟨rfl, ⟨[], .sg g, rfl, rfl⟩, ⟨.sg g, [], rfl, rfl⟩⟩
    have := h1.join (hg.join h2)
    show Fm (brT (lB g l) l.tks ++ ([Tn.sg g] ++ brT (rB g r) r.tks)) (cd (br (lB g l) l.txt ++ (" " : Str) ++ g.txt ++ (" " : Str) ++ br (rB g r) r.txt))
    rw [cd_app, cd_app, cd_app, cd_app, cd_bl]
    simp only [List.append_assoc]
    exact this
theorem spaced_ex {e : Ex} (h : ∀ t ∈ e.tks, POk (some t)) : PySem.Txt.replace (PySem.Txt.replace (PySem.Txt.join (" " : Str) (e.tks.map Tn.txt)) ("( " : Str) ("(" : Str)) (" )" : Str) (")" : Str) = e.txt := by
  refine cd_inj ?_
  have h1 := replace_list (x := PySem.Txt.join (" " : Str) (e.tks.map Tn.txt)) (y := ("( " : Str)) (z := ("(" : Str)) (by decide +kernel)
  have h2 := replace_list (x := PySem.Txt.replace (PySem.Txt.join (" " : Str) (e.tks.map Tn.txt)) ("( " : Str) ("(" : Str)) (y := (" )" : Str)) (z := (")" : Str)) (by decide +kernel)
  have c1 : ("( " : Str).cps.toList = [40, 32] := by decide +kernel
  have c2 : (" )" : Str).cps.toList = [32, 41] := by decide +kernel
  have c3 : ("(" : Str).cps.toList = [40] := cd_lp
  have c4 : (")" : Str).cps.toList = [41] := cd_rp
  rw [c1, c3, show (PySem.Txt.join (" " : Str) (e.tks.map Tn.txt)).cps.toList = jn e.tks from join_jn _, repl1 _ h] at h1
  rw [h1, c2, c4, repl2 _ h] at h2
  show (PySem.Txt.replace _ _ _).cps.toList = _
  rw [h2]
  exact e.fm.1
end SH

set_option Elab.async false
set_option linter.all false
set_option maxRecDepth 100000
/-! for i, c in enumerate(text). -/
namespace SH
open PySem PySem.Spec PyProof.Rows L2
def Ites (x : Str) : It := ⟨fun i _ => i < x.cps.size, fun i H v H' => ∃ T c, v = .ref T ∧ H T = none ∧ H' = upd H T (.tup [.int (i : Nat), .str ⟨#[c]⟩]) ∧ x.cps[i]? = some c, fun i _ => x.cps.size ≤ i⟩
theorem draws_str {prog : Program} {w : World} {A : Around} (hh : A.handled = none) (it : Addr) (x : Str) (t : Tok) : Draws prog w A it [it] x.cps.size (SignAt x) (fun i h => h.IsStrIter it (strIterType x) x t i) := by
  unfold strIterType
  split
  · exact Draws.strAscii hh it x t
  · exact Draws.strWide hh it x t
theorem turn_enumS {P : Program} {w : World} {K : PySem.W.Frag} {elts : List Expr} {kk : Nat} {tpos : Pos} (x : Str) (t : Tok) (e it : Addr) :
    Turn P w K (.Tuple elts kk tpos) (Ites x) [e, it] e (fun i h => (∃ old, IsEnum h e it ((i : Nat) : Int) old) ∧ h.IsStrIter it (strIterType x) x t i ∧ e ≠ it ∧ i ≤ x.cps.size) where
  mem := by simp
  obj := fun i h st b hb => by
    obtain ⟨⟨old, he⟩, ⟨o, ho, hc, hd⟩, _⟩ := st
    have e' : b = e ∨ b = it := by simpa using hb
    rcases e' with z | z
    · rw [z]; exact ⟨_, he, fun v q => nomatch q⟩
    · rw [z]; exact ⟨o, ho, fun v q => by rw [hd] at q; cases q⟩
  keep := fun i h h' st k => let ⟨⟨old, he⟩, ⟨o, ho, r⟩, hne⟩ := st; ⟨⟨old, k e (by simp) _ he⟩, ⟨o, k it (by simp) o ho, r⟩, hne⟩
  item := by
    intro X hP hw hK hc i pins s σ H E I hf st hg
    subst hP hw hK
    obtain ⟨⟨old, he⟩, hit, hne, hle⟩ := st
    have D := draws_str (prog := X.prog) (w := X.w) (A := X.A.in1) (show X.A.in1.handled = none from (I.ok.hd hc)) it x t
    have hel : e < s.heap.objs.size := Heap.lt_size he
    have hil : it < s.heap.objs.size := by obtain ⟨_, q, _⟩ := hit; exact Heap.lt_size q
    refine wpAny_pyNext_enum_itemD D he hit hg hne (by simp [hne]) fun u h' tk hP ho hit' hT hsz hk => ?_
    obtain ⟨c, u', hcx, rfl⟩ := hP
    refine ⟨_, rfl, wpAny_letOwnedTupleGo_enum (s := { s with heap := h', toks := tk + 1 }) ho fun h'' he' sb => ?_⟩
    have hT2 : h''.get? s.heap.objs.size = some { cls := .type "tuple", data := .seq #[.int i tk, .str ⟨#[c]⟩ u'] } := (sb.2 _ (Nat.ne_of_gt hel)).trans hT
    have new : ObjOk X.prog X.w (upd H s.heap.objs.size (.tup [.int (i : Nat), .str ⟨#[c]⟩])) h'' s.heap.objs.size (.tup [.int (i : Nat), .str ⟨#[c]⟩]) :=
      ⟨by show 2 ≤ sizeLine; decide, [.int i tk, .str ⟨#[c]⟩ u'], .cons ⟨_, rfl⟩ (.cons ⟨_, rfl⟩ .nil), ⟨_, hT2, rfl, _, rfl⟩⟩
    have I1 : Inv X pins σ (upd H s.heap.objs.size (.tup [.int (i : Nat), .str ⟨#[c]⟩])) { s with heap := h'', toks := tk + 1 } :=
      I.turnedNew (ch := [e, it]) (fun b ob hb q => (sb.2 b (fun z => hb (by simp [z]))).trans (hk b ob (fun z => hb (by simp [z])) (fun z => hb (by simp [z])) q)) hf (Nat.le_refl _) new
    refine ⟨.ref s.heap.objs.size, _, I1, rfl, ⟨_, c, rfl, I.hok.fresh (Nat.le_refl _), rfl, hcx⟩, ⟨⟨.str ⟨#[c]⟩ u', ?_⟩, ?_, hne, hg⟩, fun b hb => ?_⟩
    · have e1 : ((i + 1 : Nat) : Int) = (i : Int) + 1 := by omega
      rw [e1]; exact he'
    · obtain ⟨o, q, r⟩ := hit'
      exact ⟨o, (sb.2 it (Ne.symm hne)).trans q, r⟩
    · have hb' : b < s.heap.objs.size := by
        have e' : b = e ∨ b = it := by simpa using hb
        rcases e' with z | z
        · rw [z]; exact hel
        · rw [z]; exact hil
      rw [upd_ne (Nat.ne_of_lt hb')]
      exact (hf b hb).1
  done := by
    intro X hP hw hK hc i pins s σ H E I hf st hg
    subst hP hw hK
    obtain ⟨⟨old, he⟩, hit, hne, hle⟩ := st
    have hg' : x.cps.size ≤ i := hg
    have ei : i = x.cps.size := by omega
    subst ei
    have D := draws_str (prog := X.prog) (w := X.w) (A := X.A.in1) (show X.A.in1.handled = none from (I.ok.hd hc)) it x t
    obtain ⟨f0, f1, f2, f3, f4, f5⟩ := hf it (by simp)
    exact wpAny_pyNext_enum_endD D he hit fun h' eb => ⟨rfl, I.turned (t' := s.toks) (fun b o hb q => eb b o hb q) f0 f1 f3 f4 f5⟩
  self := fun A i s Q E st h => let ⟨⟨_, he⟩, _⟩ := st; wpAny_pyIter_enum he h
def iEnumS (ta : TA) : TI := fun σ H R => ta σ H fun vs H1 => ∃ x, vs = [.str x] ∧ R (Ites x) H1
theorem pi_enumS {X : Cx} {e : Expr} {ta : TA} {p pos tpos : Pos} {elts : List Expr} {kk : Nat} (hg : Gl X "enumerate") (hm : X.mg "enumerate" = none) (ha : PA X [e] ta) (hs : starEach [e] X.env = [(false, eval e X.env)] := by rfl) :
    PI X (.Tuple elts kk tpos) (.Call (.Name "enumerate" p) [e] [] pos) (iEnumS ta) := by
  refine ⟨fun pins s σ H R I h => ?_⟩
  refine Call_ (ld_blt I hg hm boot_enumerate (PyProof.Rows.callWith_type1 (thn (ha.run pos pins s σ H _ I h) fun us s1 ⟨vs, H1, I1, r1, q1⟩ => ?_) hs rfl))
  obtain ⟨x, ex, q⟩ := q1
  subst ex
  cases r1 with
  | cons r rr =>
    cases rr
    obtain ⟨t, rfl⟩ := r
    refine call_enumerate_str fun h' he hit hsz hk => wpAny_pyIter_enum he ?_
    have I2 : Inv X pins σ H1 { s1 with heap := h' } := I1.kept (t' := s1.toks) hk
    refine ⟨s1.heap.objs.size + 1, [s1.heap.objs.size + 1, s1.heap.objs.size], _, _, H1, rfl, I2, turn_enumS x t (s1.heap.objs.size + 1) s1.heap.objs.size, ⟨⟨.none, he⟩, hit, Nat.succ_ne_self _, Nat.zero_le _⟩, fun b hb => ?_, q⟩
    have e' : b = s1.heap.objs.size + 1 ∨ b = s1.heap.objs.size := by simpa using hb
    have hle : s1.heap.objs.size ≤ b := by
      rcases e' with z | z
      · rw [z]; exact Nat.le_add_right _ _
      · rw [z]; exact Nat.le_refl _
    exact I1.fpOk hle (I1.hok.fresh hle)
theorem walk_enumS {z : Str} : Walk (Ites z) z.cps.size (fun _ => True) (fun i H v H' => ∃ T c, v = .ref T ∧ H T = none ∧ H' = upd H T (.tup [.int (i : Nat), .str ⟨#[c]⟩]) ∧ z.cps[i]? = some c) :=
  ⟨fun _ _ hi _ => hi, fun _ _ => Nat.le_refl _, fun _ _ _ _ _ _ y => y⟩
end SH

set_option Elab.async false
set_option linter.all false
set_option maxRecDepth 100000
/-! ' '.join(x).replace('..', '..').replace('..', '..'): written texts. -/
namespace SH
open PySem PySem.Spec PyProof.Rows L2
def tSpaced (K : PySem.W.Frag) (sep y1 z1 y2 z2 : Str) (ta : TE) : TE := fun σ H Q => ta σ H fun x H1 => ∃ (p : Addr) (ys : List Str), x = .ref p ∧ SqL K H1 p (ys.map V.str) ∧ (ys.map (·.length)).sum + ys.length * sep.length ≤ 16777216 ∧
  (Txt.join sep ys).length ≤ 1000000 ∧ Q (.str (Txt.replace (Txt.replace (Txt.join sep ys) y1 z1) y2 z2)) H1
section
variable {X : Cx} {a : Expr} {ta : TE} {sep y1 z1 y2 z2 : Str} {j0 j1 j2 j3 j4 : Nat} {c0 c1 c2 c3 c4 p1 p2 p3 p4 p5 p6 : Pos}
theorem repl_at {E : Value → Shared → Prop} {x y z : Str} {t u v : Tok} {s : Shared} {Q : Value → Shared → Prop} (hx : x.length ≤ 4000000) (hz : z.length ≤ 1) (hu : u ≠ 0) (hv : v ≠ 0) (huv : u ≠ v) (hyz : (y == z) = false) (hs : 1 ≤ s.toks)
    (h : ∀ t' k, 1 ≤ k → Q (.str (Txt.replace x y z) t') { s with toks := k }) : wpAny (model X.prog X.w) X.A (call (.builtin "str.replace") [.str x t, .str y u, .str z v]) Q E s := by
  have hb : x.length + (x.length + 1) * z.length ≤ 16777216 := by
    have : (x.length + 1) * z.length ≤ (x.length + 1) * 1 := Nat.mul_le_mul_left _ hz
    omega
  have base : wpAny (model X.prog X.w) X.A (call (.builtin "str.replace") [.str x t, .str y u, .str z v]) (fun r s' => ∃ t' k, r = .str (Txt.replace x y z) t' ∧ s' = { s with toks := k }) E s :=
    PySem.SC.replace hu hv huv hyz hb fun t' k => ⟨t', k, rfl, rfl⟩
  refine wpAny_mono (PySem.wpAny_toks_of hs base) (fun r s' q => ?_) fun _ _ q => q.2
  obtain ⟨hk, t', k, rfl, rfl⟩ := q
  exact h t' k hk
theorem pe_spaced (ha : PE X a ta) (hs : starEach [a] X.env = [(false, eval a X.env)] := by rfl)
    (hb1 : attributeBase (.Constant (.str sep) j0 c0) "join" X.env (eval (.Constant (.str sep) j0 c0) X.env) = eval (.Constant (.str sep) j0 c0) X.env := by rfl)
    (hb2 : attributeBase (.Call (.Attribute (.Constant (.str sep) j0 c0) "join" p1) [a] [] p2) "replace" X.env (eval (.Call (.Attribute (.Constant (.str sep) j0 c0) "join" p1) [a] [] p2) X.env) = eval (.Call (.Attribute (.Constant (.str sep) j0 c0) "join" p1) [a] [] p2) X.env := by rfl)
    (hb3 : attributeBase (.Call (.Attribute (.Call (.Attribute (.Constant (.str sep) j0 c0) "join" p1) [a] [] p2) "replace" p3) [.Constant (.str y1) j1 c1, .Constant (.str z1) j2 c2] [] p4) "replace" X.env
      (eval (.Call (.Attribute (.Call (.Attribute (.Constant (.str sep) j0 c0) "join" p1) [a] [] p2) "replace" p3) [.Constant (.str y1) j1 c1, .Constant (.str z1) j2 c2] [] p4) X.env)
      = eval (.Call (.Attribute (.Call (.Attribute (.Constant (.str sep) j0 c0) "join" p1) [a] [] p2) "replace" p3) [.Constant (.str y1) j1 c1, .Constant (.str z1) j2 c2] [] p4) X.env := by rfl)
    (hl1 : (p1.endLine == p2.line) = true := by rfl) (hl2 : (p3.endLine == p4.line) = true := by rfl) (hl3 : (p5.endLine == p6.line) = true := by rfl)
    (e1 : (y1 == z1) = false := by decide +kernel) (e2 : (y2 == z2) = false := by decide +kernel) (w1 : z1.length ≤ 1 := by decide +kernel) (w2 : z2.length ≤ 1 := by decide +kernel) :
    PE X (.Call (.Attribute (.Call (.Attribute (.Call (.Attribute (.Constant (.str sep) j0 c0) "join" p1) [a] [] p2) "replace" p3) [.Constant (.str y1) j1 c1, .Constant (.str z1) j2 c2] [] p4) "replace" p5)
      [.Constant (.str y2) j3 c3, .Constant (.str z2) j4 c4] [] p6) (tSpaced X.K sep y1 z1 y2 z2 ta) := by
  refine ⟨fun pins s σ H Q I h => ?_⟩
  refine PySem.Call_method2 hb3 rfl hl3 (PySem.Call_method2 hb2 rfl hl2 (PySem.Call_method1 hb1 hs hl1 (Calls.Constant_str ?_)))
  refine ⟨"str", _, F.plainAttrs_str, F.slot_str_join, F.type_str_join, typeIs_str _ _ _, (fun _ e => nomatch e), Calls.callWith_builtin rfl (Calls.evalArgs_plain (Calls.spliced_cons ?_))⟩
  refine wpAny_mono (PySem.wpAny_toks_of (n := 1) (by show 1 ≤ s.toks + 1; omega) (ha.run pins _ σ H _ (I.tok _) h)) (fun v s1 q => ?_) (fun _ _ z => z.2)
  obtain ⟨hk, x, H1, I1, r1, p, ys, ex, hq, hz, hj, q1⟩ := q
  refine Calls.spliced_nil ?_
  refine wpAny_mono (PySem.wpAny_toks_of hk (mt_join pins s1 σ H1 (.str sep) [x] _ [v] (fun z H2 => z = .str (Txt.join sep ys) ∧ H2 = H1) I1 ⟨_, rfl⟩ (.cons r1 .nil) ⟨sep, p, ys, rfl, by rw [ex], .inl hq, hz, rfl, rfl⟩)) (fun v2 s2 q => ?_) (fun _ _ z => z.2)
  obtain ⟨hk2, y, H2, I2, r2, ey, eH⟩ := q
  subst ey eH
  obtain ⟨t2, rfl⟩ := r2
  refine ⟨"str", _, F.plainAttrs_str, F.slot_str_replace, F.type_str_replace, typeIs_str _ _ _, (fun _ e => nomatch e), Calls.callWith_builtin rfl (Calls.evalArgs_plain (Calls.spliced_cons (Calls.Constant_str (Calls.spliced_cons (Calls.Constant_str (Calls.spliced_nil ?_))))))⟩
  have hj2 : (Txt.replace (Txt.join sep ys) y1 z1).length ≤ 4000000 := by
    have h1 := TK.replace_len (Txt.join sep ys) y1 z1
    have : ((Txt.join sep ys).length + 1) * z1.length ≤ ((Txt.join sep ys).length + 1) * 1 := Nat.mul_le_mul_left _ w1
    omega
  refine repl_at (by omega) w1 (by show s2.toks ≠ 0; omega) (by show s2.toks + 1 ≠ 0; omega) (by show s2.toks ≠ s2.toks + 1; omega) e1 (by show 1 ≤ s2.toks + 1 + 1; omega) fun t' k hk3 => ?_
  refine ⟨"str", _, F.plainAttrs_str, F.slot_str_replace, F.type_str_replace, typeIs_str _ _ _, (fun _ e => nomatch e), Calls.callWith_builtin rfl (Calls.evalArgs_plain (Calls.spliced_cons (Calls.Constant_str (Calls.spliced_cons (Calls.Constant_str (Calls.spliced_nil ?_))))))⟩
  refine repl_at hj2 w2 (by show k ≠ 0; omega) (by show k + 1 ≠ 0; omega) (by show k ≠ k + 1; omega) e2 (by show 1 ≤ k + 1 + 1; omega) fun t'' k' hk4 => ?_
  exact ⟨.str _, H2, I2.tok k', ⟨t'', rfl⟩, q1⟩
end
end SH

set_option Elab.async false
set_option linter.all false
set_option maxRecDepth 100000
namespace SH
open PySem L2
abbrev sPairs : Stmt := topS 23
abbrev sSpaced : Stmt := topS 24
theorem scPairs : FnScope ["_law_text", "_law_found", "_law_open_ones", "_law_at", "_law_sign"] ["_law_text"] (defScope sPairs) := ⟨rfl, rfl, rfl, by decide +kernel, rfl, by decide +kernel, by decide +kernel⟩
theorem scSpaced : FnScope ["_law_text", "_law_spaced"] ["_law_text"] (defScope sSpaced) := ⟨rfl, rfl, rfl, by decide +kernel, rfl, by decide +kernel, by decide +kernel⟩
/-- a pair of places: an opening bracket, a closing one behind it -/
def PlIn (H : Hp) (cs : List Nat) (v : V) : Prop := ∃ (a : Addr) (b e : Nat), v = .ref a ∧ H a = some (.tup [.int (b : Nat), .int (e : Nat)]) ∧ b < e ∧ cs[b]? = some 40 ∧ cs[e]? = some 41
theorem PlIn.keep {H H' : Hp} {cs : List Nat} {v : V} (h : PlIn H cs v) (k : ∀ c zs, H c = some (.tup zs) → H' c = some (.tup zs)) : PlIn H' cs v := let ⟨a, b, e, h1, h2, h3⟩ := h; ⟨a, b, e, h1, k _ _ h2, h3⟩
def spPairs : Sp := fun vs H Q _ => ∃ (t : Str), vs = [.str t] ∧ bal (cd t) ∧ t.length ≤ 1000000 ∧
  ∀ (p : Addr) (us : List V) (H' : Hp), Same H H' → H p = none → H' p = some (.lst us) → (∀ v ∈ us, PlIn H' (cd t) v) → Q (.ref p) H'
def spSpaced : Sp := fun vs H Q _ => ∃ (e : Ex), vs = [.str e.txt] ∧ e.pfit ∧ e.txt.length ≤ 300000 ∧ ∀ H', Same H H' → Q (.bl true) H'
theorem toks_sum : ∀ {ps : List Pc}, (∀ p ∈ ps, POk p) → (((toks ps).map Tn.txt).map (·.length)).sum ≤ (flat ps).length ∧ (toks ps).length ≤ (flat ps).length
  | [], _ => ⟨Nat.le_refl _, Nat.le_refl _⟩
  | p :: r, h => by
    obtain ⟨h1, h2⟩ := toks_sum (ps := r) fun p hp => h p (List.mem_cons_of_mem _ hp)
    rw [flat_cons, List.length_append]
    rcases p with _ | t
    · exact ⟨by show ((((toks r).map Tn.txt).map (·.length)).sum) ≤ _; omega, by show (toks r).length ≤ _; omega⟩
    · have hn := List.length_pos_iff.mpr (pc_ne (h (some t) List.mem_cons_self))
      refine ⟨?_, ?_⟩
      · show t.txt.length + (((toks r).map Tn.txt).map (·.length)).sum ≤ _
        rw [← cd_len]
        show (cd (ptxt (some t))).length + _ ≤ _
        omega
      · show (toks r).length + 1 ≤ _
        omega
theorem jn_len : ∀ ts : List Tn, (jn ts).length ≤ ((ts.map Tn.txt).map (·.length)).sum + ts.length
  | [] => Nat.le_refl _
  | [t] => by show (cd t.txt).length ≤ t.txt.length + 0 + 1; rw [cd_len]; omega
  | t :: u :: r => by
    have := jn_len (u :: r)
    show (cd t.txt ++ 32 :: jn (u :: r)).length ≤ t.txt.length + (((u :: r).map Tn.txt).map (·.length)).sum + ((u :: r).length + 1)
    rw [List.length_append, List.length_cons, cd_len]
    omega
theorem uno_lp (c : Nat) : decide (V.str (⟨#[c]⟩ : Str) = V.str "(") = decide (c = 40) := by
  by_cases e : c = 40
  · subst e; decide +kernel
  · rw [decide_eq_false e]
    refine decide_eq_false fun z => e ?_
    have := congrArg cd (V.str.inj z)
    rw [cd_lp] at this
    exact (List.cons.inj this).1
theorem uno_rp (c : Nat) : decide (V.str (⟨#[c]⟩ : Str) = V.str ")") = decide (c = 41) := by
  by_cases e : c = 41
  · subst e; decide +kernel
  · rw [decide_eq_false e]
    refine decide_eq_false fun z => e ?_
    have := congrArg cd (V.str.inj z)
    rw [cd_rp] at this
    exact (List.cons.inj this).1
section
variable {P : Program} {w : World} {K : PySem.W.Frag} {mg : Str → Option Value} {base : Heap}
theorem ok_pairs {f : Addr} {fd : FuncData} (F : Fun K "_law_pairs" "_law_pairs" sPairs f fd) (T : Bi mg) (q_enumerate : mg "enumerate" = none) : FnOk P w K mg base CX0 1 f fd ["_law_text"] spPairs := by
  refine F.ok scPairs (fun vs H Q E h => ?_) (fun cdv A outer s H vs Q E hr h => ?_)
  · obtain ⟨t, rfl, _⟩ := h
    rfl
  obtain ⟨t, rfl, hb, hz, q⟩ := h
  refine ⟨_, (pss_cons (ps_set (i := 1) scPairs.nd rfl (Or.inl rfl) (pe_lst pa_nil))
    (pss_cons (ps_set (i := 2) scPairs.nd rfl (Or.inl rfl) (pe_lst pa_nil))
    (pss_cons (ps_for PassesOwn.never rfl (pi_enumS (by rfl) q_enumerate (pa_cons (pv 0) pa_nil)) (pg_tup rfl (pgs_cons (pg_name (i := 3) scPairs.nd rfl (.inl rfl)) (pgs_cons (pg_name (i := 4) scPairs.nd rfl (.inl rfl)) pgs_nil)))
      (pss_cons (ps_if (pt_cmpR op_eq (pv 4) pe_str (nomark _))
      (pss_one (ps_expr (pe_bm PySem.F.plainAttrs_list PySem.F.slot_list_append PySem.F.type_list_append mt_append (pv 2) (pa_cons (pv 3) pa_nil))))
      pss_nil)
    (pss_one (ps_if (pt_cmpR op_eq (pv 4) pe_str (nomark _))
      (pss_one (ps_expr (pe_bm PySem.F.plainAttrs_list PySem.F.slot_list_append PySem.F.type_list_append mt_append (pv 1) (pa_cons (pe_tup (pa_cons (pe_bm0 PySem.F.plainAttrs_list PySem.F.slot_list_pop PySem.F.type_list_pop mt_pop (pv 2)) (pa_cons (pv 3) pa_nil))) pa_nil))))
      pss_nil))))
    (pss_one (ps_ret (pv 1)))))), ?_⟩
  have hs : sizeLine = 16777216 := by decide
  refine ⟨Nat.zero_le _, fun lf nlf => ⟨Nat.zero_le _, fun lo nlo => ?_⟩⟩
  have S1 := same_new nlf (.lst [])
  have S2 := same_new nlo (.lst [])
  have hne : lf ≠ lo := fun z => by rw [← z, upd_same] at nlo; cases nlo
  have nlo0 : H lo = none := S1.free nlo
  have g1 : (upd (upd H lf (.lst [])) lo (.lst [])) lf = some (.lst []) := by rw [upd_ne hne, upd_same]
  have g2 : (upd (upd H lf (.lst [])) lo (.lst [])) lo = some (.lst []) := upd_same
  have S12 := S1.trans S2
  generalize upd (upd H lf (.lst [])) lo (.lst []) = H1 at S2 g1 g2 S12
  refine ⟨_, rfl, t, rfl, for_it walk_enumS (fun i σ H' => ∃ (us : List V) (js : List Nat) (x y : Option V), σ = [some (.str t), some (.ref lf), some (.ref lo), x, y] ∧ H' lf = some (.lst us) ∧ H' lo = some (.lst (js.map fun j => V.int (j : Nat))) ∧
    (∀ v ∈ us, PlIn H' (cd t) v) ∧ us.length ≤ i ∧ (∀ j ∈ js, j < i ∧ (cd t)[j]? = some 40) ∧ js.length + ((cd t).take i).count 41 = ((cd t).take i).count 40 ∧ Same H H') ?_ (fun _ _ _ _ _ => trivial) ?_ ?_⟩
  · exact ⟨[], [], _, _, rfl, g1, g2, (fun v h => by cases h), Nat.le_refl _, (fun j h => by cases h), rfl, S12⟩
  · rintro i x σ H2 _ hi ⟨us, js, x0, y0, rfl, h1, h2, hp, hl, hj, hc, S⟩ ⟨Tt, c, rfl, nT, rfl, ec⟩
    have ec' : (cd t)[i]? = some c := by unfold cd; rw [Array.getElem?_toList]; exact ec
    have htk : (cd t).take (i + 1) = (cd t).take i ++ [c] := by rw [List.take_add_one, ec']; rfl
    have S3 := same_new nT (.tup [.int (i : Nat), .str ⟨#[c]⟩])
    have hT3 : (upd H2 Tt (.tup [.int (i : Nat), .str ⟨#[c]⟩])) Tt = some (.tup [.int (i : Nat), .str ⟨#[c]⟩]) := upd_same
    have h13 := S3 _ _ h1
    have h23 := S3 _ _ h2
    have hp3 : ∀ v ∈ us, PlIn (upd H2 Tt (.tup [.int (i : Nat), .str ⟨#[c]⟩])) (cd t) v := fun v hv => (hp v hv).keep fun c zs e => S3 _ _ e
    have S13 := S.trans S3
    generalize upd H2 Tt (.tup [.int (i : Nat), .str ⟨#[c]⟩]) = H3 at S3 hT3 h13 h23 hp3 S13
    refine ⟨Tt, _, rfl, SqT.of hT3, rfl, _, _, rfl, _, _, rfl, rfl, ?_⟩
    refine ⟨_, rfl, rfl, _, rfl, ?_⟩
    rw [uno_lp]
    have hlen : t.cps.size ≤ 1000000 := hz
    have hjl : js.length ≤ i := by
      have h1 : ((cd t).take i).count 40 ≤ ((cd t).take i).length := List.count_le_length
      rw [List.length_take] at h1
      omega
    by_cases c40 : c = 40
    · subst c40
      rw [decide_eq_true rfl]
      refine iteT ?_
      refine ⟨_, rfl, .inl ⟨rfl, _, SqL.of h23⟩, _, rfl, lo, _, _, rfl, rfl, h23, by rw [List.length_map]; omega, ?_⟩
      refine ⟨_, rfl, rfl, _, rfl, ?_⟩
      rw [uno_rp, decide_eq_false (by decide)]
      refine iteF ?_
      refine ⟨us, js ++ [i], _, _, rfl, by rw [upd_ne hne]; exact h13, by rw [upd_same, List.map_append]; rfl, fun v hv => (hp3 v hv).keep fun c zs e => ?_, by omega, fun j hj' => ?_, ?_, fun b u e => ?_⟩
      · rw [upd_ne (fun z => by rw [z, h23] at e; cases e)]; exact e
      · rcases List.mem_append.mp hj' with h | h
        · have := hj j h; exact ⟨by omega, this.2⟩
        · rw [List.mem_singleton.mp h]; exact ⟨Nat.lt_succ_self _, ec'⟩
      · rw [htk, List.count_append, List.count_append, List.length_append]
        show js.length + 1 + (_ + 0) = _ + 1
        omega
      · rw [upd_ne (fun z => by rw [z, nlo0] at e; cases e)]; exact S13 _ _ e
    · rw [decide_eq_false c40]
      refine iteF ?_
      refine ⟨_, rfl, rfl, _, rfl, ?_⟩
      rw [uno_rp]
      by_cases c41 : c = 41
      · subst c41
        rw [decide_eq_true rfl]
        refine iteT ?_
        have hb' := hb.1 (i + 1)
        rw [htk, List.count_append, List.count_append] at hb'
        have hb2 : ((cd t).take i).count 41 + 1 ≤ ((cd t).take i).count 40 + 0 := hb'
        rcases List.eq_nil_or_concat js with ejs | ⟨js', j0, ejs⟩
        · rw [ejs] at hc
          simp only [List.length_nil] at hc
          omega
        · rw [List.concat_eq_append] at ejs
          subst ejs
          have h23' := h23
          rw [List.map_append] at h23'
          have glast : ∀ (l : List V) (v : V), (l ++ [v])[(l ++ [v]).length - 1]? = some v := fun l v => by rw [List.length_append]; exact List.getElem?_concat_length
          refine ⟨_, rfl, .inl ⟨rfl, _, SqL.of h13⟩, ?_⟩
          refine ⟨_, rfl, .inl ⟨rfl, _, SqL.of h23'⟩, lo, _, _, rfl, rfl, h23', glast _ _, ?_⟩
          rw [show (js'.map (fun j => V.int (j : Nat)) ++ [j0].map (fun j => V.int (j : Nat))).dropLast = js'.map fun j => V.int (j : Nat) from List.dropLast_concat]
          refine ⟨_, rfl, (by show 2 ≤ sizeLine; decide), fun T2 nT2 => ?_⟩
          have g13 : (upd H3 lo (.lst (js'.map fun j => V.int (j : Nat)))) lf = some (.lst us) := by rw [upd_ne hne]; exact h13
          have S4 := same_new nT2 (.tup [V.int (j0 : Nat), V.int (i : Nat)])
          refine ⟨lf, _, _, rfl, rfl, S4 _ _ g13, by omega, ?_⟩
          have nTl : T2 ≠ lf := fun z => by rw [z] at nT2; rw [g13] at nT2; cases nT2
          have nTo : T2 ≠ lo := fun z => by rw [z, upd_same] at nT2; cases nT2
          have KT : ∀ c zs, H3 c = some (.tup zs) → (upd (upd (upd H3 lo (.lst (js'.map fun j => V.int (j : Nat)))) T2 (.tup [V.int (j0 : Nat), V.int (i : Nat)])) lf (.lst (us ++ [.ref T2]))) c = some (.tup zs) := fun c zs e => by
            rw [upd_ne (fun z => by rw [z, h13] at e; cases e)]
            refine S4 _ _ ?_
            rw [upd_ne (fun z => by rw [z, h23] at e; cases e)]
            exact e
          obtain ⟨hj1, hj2⟩ := hj j0 (List.mem_append_right _ List.mem_cons_self)
          refine ⟨us ++ [.ref T2], js', _, _, rfl, upd_same, ?_, fun v hv => ?_, by rw [List.length_append]; show us.length + 1 ≤ _; omega, fun j hj' => ?_, ?_, fun b u e => ?_⟩
          · rw [upd_ne hne.symm]
            exact S4 _ _ upd_same
          · rcases List.mem_append.mp hv with h | h
            · exact (hp3 v h).keep KT
            · rw [List.mem_singleton.mp h]
              exact ⟨T2, j0, i, rfl, by rw [upd_ne nTl]; exact upd_same, hj1, hj2, ec'⟩
          · have := hj j (List.mem_append_left _ hj')
            exact ⟨by omega, this.2⟩
          · rw [List.length_append] at hc
            have hc' : js'.length + 1 + ((cd t).take i).count 41 = ((cd t).take i).count 40 := hc
            rw [htk, List.count_append, List.count_append]
            show js'.length + (_ + 1) = _ + 0
            omega
          · rw [upd_ne (fun z => by rw [z, nlf] at e; cases e)]
            refine S4 _ _ ?_
            rw [upd_ne (fun z => by rw [z, nlo0] at e; cases e)]
            exact S13 _ _ e
      · rw [decide_eq_false c41]
        refine iteF ?_
        refine ⟨us, js, _, _, rfl, h13, h23, hp3, by omega, fun j hj' => ?_, ?_, S13⟩
        · have := hj j hj'
          exact ⟨by omega, this.2⟩
        · rw [htk, List.count_append, List.count_append, show [c].count 41 = 0 from List.count_eq_zero.mpr fun h => c41 (List.mem_singleton.mp h).symm, show [c].count 40 = 0 from List.count_eq_zero.mpr fun h => c40 (List.mem_singleton.mp h).symm]
          exact hc
  · rintro σ H2 ⟨us, js, x0, y0, rfl, h1, h2, hp, hl, hj, hc, S⟩
    exact ⟨_, rfl, q lf us H2 S nlf h1 hp⟩
theorem ok_spaced {f k1 : Addr} {fd k1d : FuncData} (F : Fun K "_law_is_spaced" "_law_is_spaced" sSpaced f fd) (PT : Fk P w K mg base 2 "_law_parts" k1 k1d ["_law_text"] spParts) : FnOk P w K mg base CX0 3 f fd ["_law_text"] spSpaced := by
  refine F.ok scSpaced (fun vs H Q E h => ?_) (fun cdv A outer s H vs Q E hr h => ?_)
  · obtain ⟨e, rfl, _⟩ := h
    rfl
  obtain ⟨e, rfl, hf, hz, q⟩ := h
  refine ⟨_, (pss_cons (ps_set (i := 1) scSpaced.nd rfl (Or.inl rfl) (pe_spaced (pe_call PT.G (hr.mono (by omega)) (by rfl) PT.m PT.k PT.b .nil pass0 (pa_cons (pv 0) pa_nil))))
    (pss_one (ps_ret (pe_cmpR op_eq (pv 1) (pv 0) (nomark _))))), ?_⟩
  have hs : sizeLine = 16777216 := by decide
  have hl : Lse false e.pcs := by have := Ex.lse e [] trivial; rwa [List.append_nil] at this
  have et := Ex.toks e
  obtain ⟨b1, b2⟩ := toks_sum (Ex.pok e hf)
  rw [et, Ex.flat, cd_len] at b1 b2
  refine ⟨_, rfl, e.txt, e.pcs, rfl, (Ex.flat e).symm, Ex.pok e hf, hl, by omega, fun p H2 S np hp => ?_⟩
  rw [et] at hp
  have em : (e.tks.map fun k => V.str k.txt) = (e.tks.map Tn.txt).map V.str := by rw [List.map_map]; rfl
  rw [em] at hp
  have hj : (PySem.Txt.join (" " : Str) (e.tks.map Tn.txt)).length ≤ 1000000 := by
    rw [← cd_len, join_jn]
    have := jn_len e.tks
    omega
  refine ⟨p, e.tks.map Tn.txt, rfl, SqL.of hp, by rw [List.length_map, show (" " : Str).length = 1 by decide +kernel]; omega, hj, ?_⟩
  rw [spaced_ex (fun t ht => Ex.pok e hf (some t) (by
    rw [← et] at ht
    obtain ⟨x, hx, ex⟩ := List.mem_filterMap.mp ht
    have : x = some t := ex
    rw [← this]
    exact hx))]
  refine ⟨_, rfl, _, rfl, rfl, ?_⟩
  rw [decide_eq_true rfl]
  exact q _ S
end
end SH

set_option Elab.async false
set_option linter.all false
set_option maxRecDepth 100000
/-! sorted of lists of plain data. -/
namespace SH
open PySem PySem.Spec PyProof.Rows L2
/-- these things, sorted by the data that they are -/
def sortV (xs : List V) (ds : List PyData) : List V := ((xs.zip ds).mergeSort (PySem.W.dataLe false Prod.snd)).map Prod.fst
def sortDs (ds : List PyData) : List PyData := ds.mergeSort (PySem.W.dataLe false id)
theorem dpLen {K : PySem.W.Frag} {H : Hp} : ∀ {xs : List V} {ds : List PyData}, DpAll K H xs ds → xs.length = ds.length
  | _, _, .nil => rfl
  | _, _, .cons _ t => congrArg (· + 1) (dpLen t)
theorem dpPairs {K : PySem.W.Frag} {H : Hp} : ∀ {xs : List V} {ds : List PyData}, DpAll K H xs ds → ∀ p ∈ xs.zip ds, Dp K H p.1 p.2
  | _, _, .nil, p, hp => by cases hp
  | _, _, .cons h t, p, hp => by
    rcases List.mem_cons.mp hp with e | hp
    · rw [e]; exact h
    · exact dpPairs t p hp
theorem dpOfPairs {K : PySem.W.Frag} {H : Hp} : ∀ (l : List (V × PyData)), (∀ p ∈ l, Dp K H p.1 p.2) → DpAll K H (l.map Prod.fst) (l.map Prod.snd)
  | [], _ => .nil
  | p :: l, h => .cons (h p List.mem_cons_self) (dpOfPairs l fun q hq => h q (List.mem_cons_of_mem _ hq))
theorem zip_snd {xs : List V} {ds : List PyData} (h : xs.length = ds.length) : (xs.zip ds).map Prod.snd = ds := by
  rw [List.map_snd_zip]
  omega
theorem sortV_dp {K : PySem.W.Frag} {H : Hp} {xs : List V} {ds : List PyData} (h : DpAll K H xs ds) : DpAll K H (sortV xs ds) (sortDs ds) := by
  have e : sortDs ds = ((xs.zip ds).mergeSort (PySem.W.dataLe false Prod.snd)).map Prod.snd := by
    unfold sortDs
    conv => lhs; rw [← zip_snd (dpLen h)]
    exact (PySem.W.sort_maps (r := PySem.W.dataLe false Prod.snd) (s := PySem.W.dataLe false id) Prod.snd fun _ _ _ _ => rfl).symm
  rw [e]
  exact dpOfPairs _ fun p hp => dpPairs h p (List.mem_mergeSort.mp hp)
theorem sortV_len {xs : List V} {ds : List PyData} (h : xs.length = ds.length) : (sortV xs ds).length = xs.length := by
  unfold sortV
  rw [List.length_map, List.length_mergeSort, List.length_zip]
  omega
def rSortD (K : PySem.W.Frag) : List V → Hp → VK → Prop := fun vs H Q => ∃ (a : Addr) (xs : List V) (ds : List PyData), vs = [V.ref a] ∧ SqL K H a xs ∧ DpAll K H xs ds ∧ PySem.W.AllAlike ds ∧ PySem.W.Sortable ds ∧ (∀ d ∈ ds, d.depth ≤ 60) ∧
  ∀ p : Addr, H p = none → Q (.ref p) (upd H p (.lst (sortV xs ds)))
section
variable {X : Cx}
theorem eachVals : ∀ {xs : List V} {us : List Value} {ds : List PyData}, Vals xs us → xs.length = ds.length → PySem.W.EachIs (fun u (b : V × PyData) => RelV b.1 u) us (xs.zip ds)
  | [], _, [], .nil, _ => .nil
  | _ :: _, _, _ :: _, .cons r t, h => .cons r (eachVals t (Nat.succ.inj h))
theorem valsEach : ∀ {us : List Value} {bs : List (V × PyData)}, PySem.W.EachIs (fun u (b : V × PyData) => RelV b.1 u) us bs → Vals (bs.map Prod.fst) us
  | _, _, .nil => .nil
  | _, _, .cons r t => .cons r (valsEach t)
theorem cr_sortD (hu : X.A.units + 64 < cLine) : CallR X (.builtin "sorted") (rSortD X.K) := by
  intro pins s σ H vs us Q I r h
  obtain ⟨a, xs, ds, rfl, hs, hd, al, so, dp, q⟩ := h
  obtain ⟨its, rv, hl, hz⟩ := I.list hs
  obtain ⟨u, rfl, ru⟩ := vals1 r
  obtain rfl : u = Value.ref a := ru
  have len := dpLen hd
  have hsn : (xs.zip ds).map Prod.snd = ds := zip_snd len
  have zl : (xs.zip ds).length = xs.length := by rw [List.length_zip]; omega
  have er : PySem.W.EachIs (fun (v : Value) (b : V × PyData) => ∃ as, Reads s.heap v b.2 as) its (xs.zip ds) := by
    have e1 := PySem.W.each_mem (eachVals rv len)
    exact e1.mono fun v b ⟨rb, mb⟩ => Dp.reads I b.2 b.1 v (dpPairs hd b mb) rb
  refine PySem.W.sorted_data (enc := Prod.snd) hl.isList (eachVals rv len) er (by rw [hsn]; exact al) (by rw [hsn]; exact so) (by rw [zl]; exact hz) (fun b hb => ?_) fun out ol oe => ?_
  · have : b.2 ∈ ds := (List.of_mem_zip hb).2
    have := dp _ this
    omega
  · have hv : Vals (sortV xs ds) out := valsEach oe
    obtain ⟨e, he⟩ := sortedAll_at s.heap its (List.toArray out)
    exact ⟨.ref (s.heap.objs.size + 1), upd H _ (.lst (sortV xs ds)), I.laid (t' := s.toks) (fun _ _ => sortedAll_old) (Nat.le_succ _) ⟨by rw [sortV_len len]; exact hz, out, e, hv, he⟩, rfl, q _ (I.hok.fresh (Nat.le_succ _))⟩
end
end SH

set_option Elab.async false
set_option linter.all false
set_option maxRecDepth 100000
/-! plain data: when two are the same; paths. -/
namespace SH
open PySem L2
mutual
def plainD : PyData → Bool
  | .none => true
  | .bool _ => false
  | .int _ => true
  | .str _ => true
  | .list ds => plainDs ds
  | .tuple ds => plainDs ds
  | .dict _ => false
def plainDs : List PyData → Bool
  | [] => true
  | d :: ds => plainD d && plainDs ds
end
mutual
theorem eqv_iff : ∀ {d e : PyData}, plainD d = true → plainD e = true → (PyData.eqv d e = true ↔ d = e)
  | .none, .none, _, _ => by simp [PyData.eqv]
  | .none, .int _, _, _ => by simp [PyData.eqv]
  | .none, .str _, _, _ => by simp [PyData.eqv]
  | .none, .list _, _, _ => by simp [PyData.eqv]
  | .none, .tuple _, _, _ => by simp [PyData.eqv]
  | .int _, .none, _, _ => by simp [PyData.eqv]
  | .int i, .int j, _, _ => by simp [PyData.eqv]
  | .int _, .str _, _, _ => by simp [PyData.eqv]
  | .int _, .list _, _, _ => by simp [PyData.eqv]
  | .int _, .tuple _, _, _ => by simp [PyData.eqv]
  | .str _, .none, _, _ => by simp [PyData.eqv]
  | .str _, .int _, _, _ => by simp [PyData.eqv]
  | .str x, .str y, _, _ => by simp [PyData.eqv]
  | .str _, .list _, _, _ => by simp [PyData.eqv]
  | .str _, .tuple _, _, _ => by simp [PyData.eqv]
  | .list _, .none, _, _ => by simp [PyData.eqv]
  | .list _, .int _, _, _ => by simp [PyData.eqv]
  | .list _, .str _, _, _ => by simp [PyData.eqv]
  | .list xs, .list ys, h, k => by
    have := eqvAll_iff (ds := xs) (es := ys) h k
    simp [PyData.eqv, this]
  | .list _, .tuple _, _, _ => by simp [PyData.eqv]
  | .tuple _, .none, _, _ => by simp [PyData.eqv]
  | .tuple _, .int _, _, _ => by simp [PyData.eqv]
  | .tuple _, .str _, _, _ => by simp [PyData.eqv]
  | .tuple _, .list _, _, _ => by simp [PyData.eqv]
  | .tuple xs, .tuple ys, h, k => by
    have := eqvAll_iff (ds := xs) (es := ys) h k
    simp [PyData.eqv, this]
  | .bool _, _, h, _ => by cases h
  | .dict _, _, h, _ => by cases h
  | _, .bool _, _, h => by cases h
  | _, .dict _, _, h => by cases h
theorem eqvAll_iff : ∀ {ds es : List PyData}, plainDs ds = true → plainDs es = true → (PyData.eqvAll ds es = true ↔ ds = es)
  | [], [], _, _ => by simp [PyData.eqvAll]
  | [], _ :: _, _, _ => by simp [PyData.eqvAll]
  | _ :: _, [], _, _ => by simp [PyData.eqvAll]
  | d :: ds, e :: es, h, k => by
    have h' : (plainD d && plainDs ds) = true := h
    have k' : (plainD e && plainDs es) = true := k
    rw [Bool.and_eq_true] at h' k'
    simp [PyData.eqvAll, eqv_iff h'.1 k'.1, eqvAll_iff h'.2 k'.2]
end
/-- a path -/
def pathD (p : List Int) : PyData := .tuple (p.map .int)
theorem ints_inj : ∀ {p q : List Int}, p.map PyData.int = q.map PyData.int → p = q
  | [], [], _ => rfl
  | [], _ :: _, h => by cases h
  | _ :: _, [], h => by cases h
  | a :: p, b :: q, h => by
    rw [List.map_cons, List.map_cons] at h
    injection h with h1 h2
    injection h1 with h1
    rw [h1, ints_inj h2]
theorem pathD_inj {p q : List Int} (h : pathD p = pathD q) : p = q := by
  unfold pathD at h
  injection h with h
  exact ints_inj h
theorem plain_ints : ∀ p : List Int, plainDs (p.map .int) = true
  | [] => rfl
  | _ :: p => by show (true && plainDs (p.map .int)) = true; rw [plain_ints p]; rfl
theorem plain_path (p : List Int) : plainD (pathD p) = true := plain_ints p
theorem eqv_path (p q : List Int) : PyData.eqv (pathD p) (pathD q) = decide (p = q) := by
  by_cases h : p = q
  · rw [decide_eq_true h]
    exact (eqv_iff (plain_path p) (plain_path q)).mpr (by rw [h])
  · rw [decide_eq_false h]
    cases e : PyData.eqv (pathD p) (pathD q) with
    | false => rfl
    | true => exact absurd (pathD_inj ((eqv_iff (plain_path p) (plain_path q)).mp e)) h
theorem plain_paths : ∀ ps : List (List Int), plainDs (ps.map pathD) = true
  | [] => rfl
  | p :: ps => by show (plainD (pathD p) && plainDs (ps.map pathD)) = true; rw [plain_path, plain_paths ps]; rfl
theorem paths_inj : ∀ {ps qs : List (List Int)}, ps.map pathD = qs.map pathD → ps = qs
  | [], [], _ => rfl
  | [], _ :: _, h => by cases h
  | _ :: _, [], h => by cases h
  | a :: p, b :: q, h => by
    rw [List.map_cons, List.map_cons] at h
    injection h with h1 h2
    rw [pathD_inj h1, paths_inj h2]
theorem eqv_paths (ps qs : List (List Int)) : PyData.eqv (.list (ps.map pathD)) (.list (qs.map pathD)) = decide (ps = qs) := by
  have i := eqv_iff (d := .list (ps.map pathD)) (e := .list (qs.map pathD)) (plain_paths ps) (plain_paths qs)
  by_cases h : ps = qs
  · rw [decide_eq_true h]
    exact i.mpr (by rw [h])
  · rw [decide_eq_false h]
    cases e : PyData.eqv (.list (ps.map pathD)) (.list (qs.map pathD)) with
    | false => rfl
    | true =>
      have := i.mp e
      injection this with this
      exact absurd (paths_inj this) h
theorem lay_ints : ∀ p : List Int, PyData.canLayAll0 (p.map .int) = true
  | [] => by rw [List.map_nil, PyData.canLayAll0]
  | _ :: p => by rw [List.map_cons, PyData.canLayAll0, lay_ints p, PyData.canLay0]; rfl
theorem depth_ints : ∀ p : List Int, PyData.depthAll (p.map .int) = 0
  | [] => by rw [List.map_nil, PyData.depthAll]
  | _ :: p => by rw [List.map_cons, PyData.depthAll, depth_ints p, PyData.depth]; rfl
theorem depth_path (p : List Int) : (pathD p).depth = 1 := by unfold pathD; rw [PyData.depth, depth_ints]
theorem shaped_path (p : List Int) : SeqAt.shaped (pathD p) = true := by
  unfold SeqAt.shaped
  rw [depth_path]
  unfold pathD
  rw [PyData.canLay0, lay_ints]
  rfl
theorem lay_paths : ∀ ps : List (List Int), PyData.canLayAll0 (ps.map pathD) = true
  | [] => by rw [List.map_nil, PyData.canLayAll0]
  | p :: ps => by
    rw [List.map_cons, PyData.canLayAll0, lay_paths ps]
    unfold pathD
    rw [PyData.canLay0, lay_ints]
    rfl
theorem depth_paths : ∀ ps : List (List Int), PyData.depthAll (ps.map pathD) ≤ 1
  | [] => by rw [List.map_nil, PyData.depthAll]; decide
  | p :: ps => by
    have := depth_paths ps
    rw [List.map_cons, PyData.depthAll, depth_path]
    omega
theorem shaped_paths (ps : List (List Int)) : SeqAt.shaped (.list (ps.map pathD)) = true := by
  unfold SeqAt.shaped
  have := depth_paths ps
  rw [PyData.canLay0, lay_paths, PyData.depth]
  simp
  omega
theorem only_ints : ∀ p : List Int, onlyTs (p.map .int) = true
  | [] => rfl
  | _ :: p => by show (true && onlyTs (p.map .int)) = true; rw [only_ints p]; rfl
theorem only_path (p : List Int) : onlyT (pathD p) = true := only_ints p
theorem only_paths : ∀ ps : List (List Int), onlyTs (ps.map pathD) = true
  | [] => rfl
  | p :: ps => by show (onlyT (pathD p) && onlyTs (ps.map pathD)) = true; rw [only_path, only_paths ps]; rfl
section
variable {K : PySem.W.Frag} {H : Hp}
theorem dpInts : ∀ {p : List Int} {xs : List V}, DpAll K H xs (p.map PyData.int) → xs = p.map V.int
  | [], _, .nil => rfl
  | _ :: _, _, .cons (.int _) t => by rw [dpInts t]; rfl
theorem intsDp : ∀ p : List Int, DpAll K H (p.map V.int) (p.map PyData.int)
  | [] => .nil
  | i :: p => .cons (.int i) (intsDp p)
theorem dpPath {v : V} {p : List Int} (h : Dp K H v (pathD p)) : ∃ a, v = .ref a ∧ SqT K H a (p.map V.int) := by
  cases h with
  | tup s q => exact ⟨_, rfl, by rw [← dpInts q]; exact s⟩
theorem pathDp {a : Addr} {p : List Int} (h : SqT K H a (p.map V.int)) : Dp K H (.ref a) (pathD p) := .tup h (intsDp p)
theorem dpGet : ∀ {xs : List V} {ds : List PyData} {i : Nat} {v : V}, DpAll K H xs ds → xs[i]? = some v → ∃ d, ds[i]? = some d ∧ Dp K H v d
  | _, _, _, _, .nil, h => by simp at h
  | _, _, 0, _, .cons a _, h => by
    obtain rfl := Option.some.inj h
    exact ⟨_, rfl, a⟩
  | _, _, i + 1, _, .cons _ t, h => dpGet (i := i) t h
theorem dpPathAt {xs : List V} {ps : List (List Int)} {i : Nat} {v : V} (h : DpAll K H xs (ps.map pathD)) (e : xs[i]? = some v) : ∃ p, ps[i]? = some p ∧ Dp K H v (pathD p) := by
  obtain ⟨d, hd, q⟩ := dpGet h e
  rw [List.getElem?_map] at hd
  cases hp : ps[i]? with
  | none => rw [hp] at hd; cases hd
  | some p =>
    rw [hp] at hd
    obtain rfl := Option.some.inj hd
    exact ⟨p, rfl, q⟩
theorem dpTake : ∀ {xs : List V} {ds : List PyData} (n : Nat), DpAll K H xs ds → DpAll K H (xs.take n) (ds.take n)
  | _, _, 0, _ => by rw [List.take_zero, List.take_zero]; exact .nil
  | _, _, _ + 1, .nil => by rw [List.take_nil, List.take_nil]; exact .nil
  | _, _, n + 1, .cons a t => .cons a (dpTake n t)
theorem dpDrop : ∀ {xs : List V} {ds : List PyData} (n : Nat), DpAll K H xs ds → DpAll K H (xs.drop n) (ds.drop n)
  | _, _, 0, h => h
  | _, _, _ + 1, .nil => by rw [List.drop_nil, List.drop_nil]; exact .nil
  | _, _, n + 1, .cons _ t => dpDrop n t
end
section
variable {K : PySem.W.Frag} {a b : Addr} {xs ys : List V}
/-- zip of two tuples, however long -/
theorem walk_zipT : Walk (RZ.ItzT K a b) (min xs.length ys.length) (fun H => SqT K H a xs ∧ SqT K H b ys) (YPair (fun i => xs[i]?) (fun i => ys[i]?)) := by
  refine ⟨fun i _ hi q => ?_, fun _ q => ⟨xs, ys, q.1, q.2, by omega⟩, fun i H v H' _ q y => ?_⟩
  · exact ⟨xs, ys, xs[i]'(by omega), ys[i]'(by omega), q.1, q.2, List.getElem?_eq_getElem (by omega), List.getElem?_eq_getElem (by omega)⟩
  · obtain ⟨T, x, y, e, n, e2, f, g⟩ := y
    exact ⟨T, x, y, e, n, e2, f xs q.1, g ys q.2⟩
end
theorem kp {K : PySem.W.Frag} {H H' : Hp} {a : Addr} {xs : List V} (s : Same H H') (h : SqT K H a xs) : SqT K H' a xs := Same.kpT s _ _ h
theorem dpS {K : PySem.W.Frag} {H H' : Hp} {v : V} {d : PyData} (s : Same H H') (o : onlyT d = true) (h : Dp K H v d) : Dp K H' v d := Dp.keep (Same.kpT s) o h
theorem dpsS {K : PySem.W.Frag} {H H' : Hp} {vs : List V} {ds : List PyData} (s : Same H H') (o : onlyTs ds = true) (h : DpAll K H vs ds) : DpAll K H' vs ds := DpAll.keep (Same.kpT s) o h
theorem cut_all {α : Type} {xs : List α} {lo hi : Option Int} (h : HT.sIx xs.length 0 lo = 0 ∧ HT.sIx xs.length xs.length hi = xs.length) : (xs.drop (HT.sIx xs.length 0 lo)).take (HT.sIx xs.length xs.length hi - HT.sIx xs.length 0 lo) = xs := by
  rw [h.1, h.2, List.drop_zero, Nat.sub_zero, List.take_length]
/-- a slice of a tuple, new or the tuple itself -/
theorem slA {K : PySem.W.Frag} {H : Hp} {a : Addr} {xs : List V} {lo hi : Option Int} {Q : VK} (h : SqT K H a xs) (k : ∀ b H', Same H H' → SqT K H' b (cutV xs lo hi) → Q (.ref b) H') : rSlA K (.ref a) lo hi H Q :=
  ⟨a, xs, rfl, h, fun e => k a H (Same.refl _) (by unfold cutV; rw [cut_all e]; exact h), fun _ p hp => k p _ (same_new hp _) (.inl (.inl upd_same))⟩
theorem joinLen (a : Str) : ∀ l : List Str, (PySem.Txt.join a l).length ≤ (l.map (·.length)).sum + l.length * a.length := by
  have step : ∀ l : List Str, (PySem.Str.join a l).length ≤ (l.map (·.length)).sum + l.length * a.length := by
    intro l
    induction l with
    | nil => exact Nat.zero_le _
    | cons x r ih =>
      cases r with
      | nil =>
        show x.length ≤ x.length + 0 + 1 * a.length
        omega
      | cons y t =>
        show (x ++ a ++ PySem.Str.join a (y :: t)).length ≤ x.length + ((y :: t).map (·.length)).sum + ((y :: t).length + 1) * a.length
        rw [app_len, app_len, Nat.succ_mul]
        omega
  intro l
  show (Builtin.Str.glued a l).length ≤ _
  rw [StrLaws.glued_eq_join]
  exact step l
theorem eqDK {X : Cx} (K : PySem.W.Frag) (hu : X.A.units + 64 < cLine) (hK : X.K = K := by rfl) : OpR X (compareOp .Eq) (rEqD K) := hK ▸ op_eqD hu
theorem neDK {X : Cx} (K : PySem.W.Frag) (hu : X.A.units + 64 < cLine) (hK : X.K = K := by rfl) : OpR X (compareOp .NotEq) (rNeD K) := hK ▸ op_neD hu
theorem call_isi_at {X : Cx} (K : PySem.W.Frag) (h : X.K = K := by rfl) : CallR X (.builtin "isinstance") (rIsi K) := h ▸ call_isi
/-! ### the order of paths -/
def ahead (p q : List Int) : Bool := if p.take (min p.length q.length) = q.take (min p.length q.length) then decide (q.length < p.length) else HT.lexLt p q
/-- the same, number by number -/
def bef : List Int → List Int → Bool
  | [], _ => false
  | _ :: _, [] => true
  | x :: p, y :: q => if x = y then bef p q else decide (x < y)
theorem ahead_bef : ∀ p q : List Int, ahead p q = bef p q
  | [], q => by unfold ahead bef; simp
  | _ :: _, [] => by unfold ahead bef; simp
  | x :: p, y :: q => by
    have ih := ahead_bef p q
    unfold ahead at ih ⊢
    unfold bef
    rw [show min (x :: p).length (y :: q).length = min p.length q.length + 1 by simp only [List.length_cons]; omega, List.take_succ_cons, List.take_succ_cons]
    by_cases h : x = y
    · subst h
      rw [if_pos rfl, ← ih]
      by_cases e : p.take (min p.length q.length) = q.take (min p.length q.length)
      · rw [if_pos (by rw [e]), if_pos e]
        simp
      · rw [if_neg (by intro z; injection z with _ z; exact e z), if_neg e]
        simp [HT.lexLt]
    · rw [if_neg h, if_neg (by intro z; injection z with z _; exact h z)]
      simp [HT.lexLt, h]
theorem bef_irrefl : ∀ p, bef p p = false
  | [] => rfl
  | x :: p => by unfold bef; rw [if_pos rfl]; exact bef_irrefl p
end SH

set_option Elab.async false
set_option linter.all false
/-! text.count(sign). -/
namespace SH
open PySem L2 PySem.StrLaws
theorem no_count {x : Str} {c a : Nat} (h : ∀ k, a ≤ k → ¬ At x ⟨#[c]⟩ x.length k) : ((cd x).drop a).count c = 0 := by
  refine List.count_eq_zero.mpr fun hm => ?_
  obtain ⟨j, hj⟩ := List.getElem?_of_mem hm
  rw [List.getElem?_drop] at hj
  exact h (a + j) (by omega) ((subAt_one x c (a + j)).mpr hj)
theorem chain_count {x : Str} {c : Nat} : ∀ (cuts : List Nat) (a f : Nat), ChainG x ⟨#[c]⟩ x.length a cuts f → (∀ k, f ≤ k → ¬ At x ⟨#[c]⟩ x.length k) → cuts.length = ((cd x).drop a).count c
  | [], a, f, h, hn => by
    have e : f = a := h
    subst e
    exact (no_count hn).symm
  | d :: r, a, f, h, hn => by
    obtain ⟨h1, h2, h3, h4⟩ := h
    have ih := chain_count r (d + 1) f h4 hn
    have hd := (subAt_one x c d).mp h2
    have hd' : (cd x)[d]? = some c := hd
    have hl : d < (cd x).length := (List.getElem?_eq_some_iff.mp hd').1
    have e1 : (cd x).drop a = ((cd x).drop a).take (d - a) ++ (cd x).drop d := by
      have := (List.take_append_drop (d - a) ((cd x).drop a)).symm
      rw [List.drop_drop, show a + (d - a) = d by omega] at this
      exact this
    have e2 : (cd x).drop d = c :: (cd x).drop (d + 1) := by
      rw [List.drop_eq_getElem_cons hl]
      have := (List.getElem?_eq_some_iff.mp hd').2
      rw [this]
    have e3 : (((cd x).drop a).take (d - a)).count c = 0 := by
      refine List.count_eq_zero.mpr fun hm => ?_
      obtain ⟨j, hj⟩ := List.getElem?_of_mem hm
      have hlt : j < d - a := by
        have h1 := (List.getElem?_eq_some_iff.mp hj).1
        rw [List.length_take] at h1
        omega
      rw [List.getElem?_take_of_lt hlt, List.getElem?_drop] at hj
      exact h3 (a + j) (by omega) (by omega) ((subAt_one x c (a + j)).mpr hj)
    rw [e1, e2, List.count_append, e3, List.count_cons_self, List.length_cons, ih]
    omega
theorem count_sign (x : Str) (c : Nat) : PySem.Txt.count x ⟨#[c]⟩ = (((cd x).count c : Nat) : Int) := by
  obtain ⟨f, hG, hn⟩ := occ_tight x ⟨#[c]⟩ (Nat.le_refl 1)
  have := chain_count _ 0 f hG hn
  rw [List.drop_zero] at this
  unfold PySem.Txt.count
  rw [this]
end SH

set_option Elab.async false
set_option linter.all false
/-! What is read is a tree of its bounds. -/
namespace SH
open PySem L2
def OO (os : List Ot) : Prop := ∀ o ∈ os, o.1.pfit ∧ o.2 = o.1.dep ∧ o.2 ≤ 6
theorem OO.mk {o a : Ot} {r : List Ot} {g : Sg} (h : OO (o :: a :: r)) (hd : (mk2 g a o).2 < 7) : OO (mk2 g a o :: r) := by
  obtain ⟨o1, o2, o3⟩ := h o List.mem_cons_self
  obtain ⟨a1, a2, a3⟩ := h a (List.mem_cons_of_mem _ List.mem_cons_self)
  intro x hx
  rcases List.mem_cons.mp hx with rfl | hx
  · refine ⟨⟨a1, o1⟩, ?_, by omega⟩
    show 1 + max a.2 o.2 = 1 + max a.1.dep o.1.dep
    rw [a2, o2]
  · exact h x (List.mem_cons_of_mem _ (List.mem_cons_of_mem _ hx))
theorem close_oo : ∀ (p : Pile) (os : List Ot) (x : List Ot × Pile), OO os → closeM p os = some x → OO x.1
  | [], os, x, _, h => by cases os <;> cases h
  | none :: p, os, x, ho, h => by
    have h' : some (os, p) = some x := by rw [← h]; cases os <;> rfl
    cases h'
    exact ho
  | some k :: p, [], x, _, h => by cases h
  | some k :: p, [o], x, _, h => by cases h
  | some k :: p, o :: a :: r, x, ho, h => by
    have h' : (if (mk2 k a o).2 < 7 then closeM p (mk2 k a o :: r) else none) = some x := h
    split at h'
    · rename_i hd
      exact close_oo p _ x (ho.mk hd) h'
    · cases h'
theorem sign_oo (g : Sg) : ∀ (p : Pile) (os : List Ot) (x : List Ot × Pile), OO os → signM g p os = some x → OO x.1
  | [], os, x, _, h => by cases h
  | none :: p, os, x, ho, h => by cases h; exact ho
  | some k :: p, os, x, ho, h => by
    have h' : (if g.lv ≤ k.lv then (if g.lv = 1 ∧ k.lv = 1 then none else match os with
      | o :: a :: r => if (mk2 k a o).2 < 7 then signM g p (mk2 k a o :: r) else none
      | _ => none) else some (os, some k :: p)) = some x := h
    split at h'
    · split at h'
      · cases h'
      · split at h'
        · split at h'
          · rename_i hd
            exact sign_oo g p _ x (ho.mk hd) h'
          · cases h'
        · cases h'
    · cases h'; exact ho
theorem step_oo {S S' : RS} {t : Tn} (ht : POk (some t)) (ho : OO S.outs) (h : stepM S t = some S') : OO S'.outs := by
  obtain ⟨outs, p, w⟩ := S
  cases p with
  | nil => cases h
  | cons x p =>
    cases w with
    | true =>
      cases t with
      | lp =>
        have e' : (if cntN (x :: p) < 9 then some (RS.mk outs (none :: x :: p) true) else none) = some S' := h
        split at e'
        · cases e'; exact ho
        · cases e'
      | rp => cases h
      | sg g => cases h
      | num n =>
        cases h
        intro o hm
        rcases List.mem_cons.mp hm with rfl | hm
        · exact ⟨ht, rfl, show (1 : Nat) ≤ 6 by decide⟩
        · exact ho o hm
      | nam n =>
        cases h
        intro o hm
        rcases List.mem_cons.mp hm with rfl | hm
        · exact ⟨ht, rfl, show (1 : Nat) ≤ 6 by decide⟩
        · exact ho o hm
    | false =>
      cases t with
      | lp => cases x <;> cases h
      | num n => cases x <;> cases h
      | nam n => cases x <;> cases h
      | sg g =>
        rw [step_sg (by intro h; cases h)] at h
        cases hs : signM g (x :: p) outs with
        | none => rw [hs] at h; cases h
        | some y => rw [hs] at h; cases h; exact sign_oo g _ _ _ ho hs
      | rp =>
        rw [step_rp (by intro h; cases h)] at h
        cases hs : closeM (x :: p) outs with
        | none => rw [hs] at h; cases h
        | some y => rw [hs] at h; cases h; exact close_oo _ _ _ ho hs
theorem read_oo : ∀ (ts : List Tn) (S S' : RS), (∀ t ∈ ts, POk (some t)) → OO S.outs → readM S ts = some S' → OO S'.outs
  | [], S, S', _, h, e => by cases e; exact h
  | t :: r, S, S', ht, h, e => by
    have e' : (match stepM S t with | some S' => readM S' r | none => none) = some S' := e
    cases hs : stepM S t with
    | none => rw [hs] at e'; cases e'
    | some S1 =>
      rw [hs] at e'
      exact read_oo r S1 S' (fun t h => ht t (List.mem_cons_of_mem _ h)) (step_oo (ht t List.mem_cons_self) h hs) e'
theorem res_oo {ts : List Tn} {e : Ex} (ht : ∀ t ∈ ts, POk (some t)) (h : resM ts = some e) : e.pfit ∧ e.dep ≤ 6 := by
  unfold resM at h
  split at h
  · rename_i o os w hr
    cases h
    have q := read_oo (ts ++ [.rp]) RS0 _ (fun t h => by
      rcases List.mem_append.mp h with h | h
      · exact ht t h
      · rw [List.mem_singleton.mp h]; trivial) (fun o h => by cases h) hr
    obtain ⟨q1, q2, q3⟩ := q o List.mem_cons_self
    exact ⟨q1, by omega⟩
  · cases h
end SH

set_option Elab.async false
set_option linter.all false
set_option maxRecDepth 100000
namespace SH
open PySem L2
abbrev sLaw : Stmt := topS 25
theorem scLaw : FnScope ["_law_script", "_law_k", "_law_bag_here", "_law_names_here", "_law_tree_here", "_law_text", "_law_begin", "_law_end", "_law_less"] ["_law_script"] (defScope sLaw) := ⟨rfl, rfl, rfl, by decide +kernel, rfl, by decide +kernel, by decide +kernel⟩
def spLaw (K : PySem.W.Frag) : Sp := fun vs H Q _ => ∃ (a : Addr) (ns : List Int), vs = [.ref a] ∧ SqL K H a (ns.map V.int) ∧ ns.length ≤ 63 ∧ ∀ H', Q (.bl true) H'
/-! ### trees as plain data -/
def Ex.pdt : Ex → PyData
  | .num i => .tuple [.str "number", .int i]
  | .nam s => .tuple [.str "name", .str s]
  | .op g l r => .tuple [.str g.txt, l.pdt, r.pdt]
theorem Ex.pdp {K : PySem.W.Frag} {H : Hp} : ∀ {e : Ex} {v : V}, TrIn H e v → Dp K H v e.pdt
  | .num _, _, ⟨a, e, h⟩ => e ▸ .tup (SqT.of h) (.cons (.str _) (.cons (.int _) .nil))
  | .nam _, _, ⟨a, e, h⟩ => e ▸ .tup (SqT.of h) (.cons (.str _) (.cons (.str _) .nil))
  | .op _ _ _, _, ⟨a, x, y, e, h, l, r⟩ => e ▸ .tup (SqT.of h) (.cons (.str _) (.cons (Ex.pdp l) (.cons (Ex.pdp r) .nil)))
theorem Sg.txt_inj {g k : Sg} (h : g.txt = k.txt) : g = k := by
  have := congrArg cd h
  rw [cd_sg, cd_sg] at this
  cases g <;> cases k <;> first | rfl | cases this
theorem Ex.pdt_inj : ∀ {e f : Ex}, e.pdt = f.pdt → e = f
  | .num i, .num j, h => by cases h; rfl
  | .nam i, .nam j, h => by cases h; rfl
  | .op g l r, .op k a b, h => by
    have h1 := PyData.tuple.inj h
    obtain ⟨e1, h2⟩ := List.cons.inj h1
    obtain ⟨e2, h3⟩ := List.cons.inj h2
    obtain ⟨e3, _⟩ := List.cons.inj h3
    rw [Sg.txt_inj (PyData.str.inj e1), Ex.pdt_inj e2, Ex.pdt_inj e3]
  | .num i, .nam j, h => by
    have := PyData.str.inj (List.cons.inj (PyData.tuple.inj h)).1
    exact absurd this (by decide +kernel)
  | .nam i, .num j, h => by
    have := PyData.str.inj (List.cons.inj (PyData.tuple.inj h)).1
    exact absurd this (by decide +kernel)
  | .num i, .op k a b, h => by
    have := (List.cons.inj (List.cons.inj (PyData.tuple.inj h)).2).2
    cases this
  | .nam i, .op k a b, h => by
    have := (List.cons.inj (List.cons.inj (PyData.tuple.inj h)).2).2
    cases this
  | .op k a b, .num i, h => by
    have := (List.cons.inj (List.cons.inj (PyData.tuple.inj h)).2).2
    cases this
  | .op k a b, .nam i, h => by
    have := (List.cons.inj (List.cons.inj (PyData.tuple.inj h)).2).2
    cases this
theorem Ex.pdt_plain : ∀ e : Ex, plainD e.pdt = true
  | .num i => rfl
  | .nam i => rfl
  | .op g l r => by
    show (plainD (.str g.txt) && (plainD l.pdt && (plainD r.pdt && true))) = true
    rw [Ex.pdt_plain l, Ex.pdt_plain r]
    rfl
theorem nm_strOk {s : Str} (h : nmL s) : PyData.strOk s = true := by
  unfold PyData.strOk
  rw [Array.all_eq_true']
  intro x hx
  have := (h.2.2 x (Array.mem_toList_iff.mpr hx)).2
  exact decide_eq_true (by omega)
theorem Ex.pdt_lay : ∀ e : Ex, e.pfit → PyData.canLay0 e.pdt = true ∧ e.pdt.depth ≤ e.dep
  | .num i, _ => ⟨by show (PyData.strOk _ && (true && true)) = true; decide +kernel, Nat.le_refl _⟩
  | .nam i, h => ⟨by show (PyData.strOk _ && (PyData.strOk i && true)) = true; rw [nm_strOk h]; decide +kernel, Nat.le_refl _⟩
  | .op g l r, h => by
    obtain ⟨l1, l2⟩ := Ex.pdt_lay l h.1
    obtain ⟨r1, r2⟩ := Ex.pdt_lay r h.2
    refine ⟨?_, ?_⟩
    · show (PyData.strOk g.txt && (PyData.canLay0 l.pdt && (PyData.canLay0 r.pdt && true))) = true
      rw [l1, r1]
      cases g <;> decide +kernel
    · show max 0 (max l.pdt.depth (max r.pdt.depth 0)) + 1 ≤ 1 + max l.dep r.dep
      omega
theorem Ex.pdt_shaped {e : Ex} (h : e.pfit) (hd : e.dep ≤ 60) : SeqAt.shaped e.pdt = true := by
  obtain ⟨h1, h2⟩ := Ex.pdt_lay e h
  unfold SeqAt.shaped
  rw [h1, decide_eq_true (by omega)]
  rfl
def optPd : Option Ex → PyData
  | some e => e.pdt
  | none => .none
theorem optPd_dp {K : PySem.W.Frag} {H : Hp} {o : Option Ex} {v : V} (h : optTr H o v) : Dp K H v (optPd o) := by
  cases o with
  | some e => exact Ex.pdp h
  | none => rw [show v = .non from h]; exact .non
theorem optPd_ne {o : Option Ex} {e : Ex} (h : o ≠ some e) : PyData.eqv (optPd o) e.pdt = false := by
  cases o with
  | none => cases e <;> rfl
  | some f =>
    refine Bool.eq_false_iff.mpr fun z => h ?_
    rw [Ex.pdt_inj ((eqv_iff (Ex.pdt_plain f) (Ex.pdt_plain e)).mp z)]
/-! ### the trees that are drawn -/
structure TrOk (e : Ex) : Prop where
  dep : e.dep ≤ 6
  fit : e.pfit
  ok : Ex.ok 6 e
  tok : ∀ t ∈ e.tks, TOk t
theorem of_dep {nm : List Str} : ∀ {n : Nat} {e : Ex}, Ex.of nm n e → e.dep ≤ n
  | 0, _, h => h.elim
  | n + 1, .num _, _ => Nat.le_add_left 1 n
  | n + 1, .nam _, _ => Nat.le_add_left 1 n
  | n + 1, .op _ l r, h => by
    have h1 := of_dep h.1
    have h2 := of_dep h.2
    show 1 + max l.dep r.dep ≤ n + 1
    omega
theorem of_fit {nm : List Str} (hn : ∀ s ∈ nm, nmOk s ∧ s ∉ kept) : ∀ {n : Nat} {e : Ex}, Ex.of nm n e → e.pfit
  | 0, _, h => h.elim
  | n + 1, .num _, h => h
  | n + 1, .nam s, h => (hn s h).1
  | n + 1, .op _ _ _, h => ⟨of_fit hn h.1, of_fit hn h.2⟩
theorem br_tok (b : Bool) {ts : List Tn} (h : ∀ t ∈ ts, TOk t) : ∀ t ∈ brT b ts, TOk t := by
  cases b with
  | false => exact h
  | true =>
    intro t ht
    rcases List.mem_cons.mp (show t ∈ Tn.lp :: (ts ++ [Tn.rp]) from ht) with rfl | q
    · exact ⟨trivial, fun s z => by cases z⟩
    · rcases List.mem_append.mp q with q | q
      · exact h t q
      · rw [List.mem_singleton.mp q]; exact ⟨trivial, fun s z => by cases z⟩
theorem of_tok {nm : List Str} (hn : ∀ s ∈ nm, nmOk s ∧ s ∉ kept) : ∀ {n : Nat} {e : Ex}, Ex.of nm n e → ∀ t ∈ e.tks, TOk t
  | 0, _, h, _, _ => h.elim
  | n + 1, .num i, h, t, ht => by rw [List.mem_singleton.mp ht]; exact ⟨h, fun s z => by cases z⟩
  | n + 1, .nam s, h, t, ht => by rw [List.mem_singleton.mp ht]; exact ⟨(hn s h).1, fun s' z => by cases z; exact (hn s h).2⟩
  | n + 1, .op g l r, h, t, ht => by
    rcases List.mem_append.mp (show t ∈ brT (lB g l) l.tks ++ Tn.sg g :: brT (rB g r) r.tks from ht) with q | q
    · exact br_tok _ (of_tok hn h.1) t q
    · rcases List.mem_cons.mp q with rfl | q
      · exact ⟨trivial, fun s z => by cases z⟩
      · exact br_tok _ (of_tok hn h.2) t q
theorem of_trok {nm : List Str} (hn : ∀ s ∈ nm, nmOk s ∧ s ∉ kept) {n : Nat} (h6 : n ≤ 6) {e : Ex} (h : Ex.of nm n e) : TrOk e :=
  ⟨Nat.le_trans (of_dep h) h6, of_fit hn h, Ex.ok_up h6 (Ex.of_ok (fun s hs => (hn s hs).1) h), of_tok hn h⟩
theorem TrOk.len {e : Ex} (h : TrOk e) : e.txt.length ≤ 300000 := Nat.le_trans (Ex.len 6 e h.ok) (by decide)
/-- each of these is such a tree -/
def Trs (H : Hp) (vs : List V) : Prop := ∀ v ∈ vs, ∃ e, TrIn H e v ∧ TrOk e
theorem Trs.same {H H' : Hp} {vs : List V} (h : Trs H vs) (s : Same H H') : Trs H' vs := fun v hv => let ⟨e, t, o⟩ := h v hv; ⟨e, t.same s, o⟩
theorem fresh_but {b : Addr} {H0 H1 H2 : Hp} (s : Same H0 H1) (hb : H0 b = none) (u : But b H1 H2) : Same H0 H2 := fun a o e => u a o (ne_of_none e hb) (s a o e)
theorem cutS_nat (z : Str) (i j : Nat) : cd (cutS z (some (i : Int)) (some (j : Int))) = ((cd z).drop (min i z.length)).take (min j z.length - min i z.length) := by
  unfold cutS
  rw [HT.sIx_nat, HT.sIx_nat]
  show ((List.take _ (List.drop _ (cd z))).toArray).toList = _
  rw [List.toList_toArray]
theorem cutS_to (z : Str) (j : Nat) : cd (cutS z none (some (j : Int))) = (cd z).take (min j z.length) := by
  unfold cutS
  rw [HT.sIx_nat, HT.sIx_none]
  show ((List.take _ (List.drop 0 (cd z))).toArray).toList = _
  rw [List.toList_toArray, List.drop_zero, Nat.sub_zero]
theorem cutS_from (z : Str) (i : Nat) : cd (cutS z (some (i : Int)) none) = (cd z).drop (min i z.length) := by
  unfold cutS
  rw [HT.sIx_nat, HT.sIx_none]
  show ((List.take _ (List.drop _ (cd z))).toArray).toList = _
  rw [List.toList_toArray, ← cd_len]
  exact List.take_of_length_le (by rw [List.length_drop]; exact Nat.le_refl _)
theorem less_text {t : Str} {b e : Nat} (h : b < e) (hb : (cd t)[b]? = some 40) (he : (cd t)[e]? = some 41) :
    ∃ A M B, cd t = A ++ 40 :: (M ++ 41 :: B) ∧ cd (cutS t none (some (b : Int)) ++ cutS t (some ((b : Int) + 1)) (some (e : Int)) ++ cutS t (some ((e : Int) + 1)) none) = A ++ (M ++ B) := by
  have he' : e < (cd t).length := (List.getElem?_eq_some_iff.mp he).1
  have hl := cd_len t
  refine ⟨(cd t).take b, ((cd t).drop (b + 1)).take (e - (b + 1)), (cd t).drop (e + 1), ?_, ?_⟩
  · have h1 : cd t = (cd t).take b ++ (cd t).drop b := (List.take_append_drop _ _).symm
    have h2 : (cd t).drop b = 40 :: (cd t).drop (b + 1) := by
      rw [List.drop_eq_getElem_cons (by omega)]
      have := (List.getElem?_eq_some_iff.mp hb).2
      rw [this]
    have h3 : (cd t).drop (b + 1) = ((cd t).drop (b + 1)).take (e - (b + 1)) ++ (cd t).drop e := by
      have := (List.take_append_drop (e - (b + 1)) ((cd t).drop (b + 1))).symm
      rw [List.drop_drop, show b + 1 + (e - (b + 1)) = e by omega] at this
      exact this
    have h4 : (cd t).drop e = 41 :: (cd t).drop (e + 1) := by
      rw [List.drop_eq_getElem_cons he']
      have := (List.getElem?_eq_some_iff.mp he).2
      rw [this]
    rw [h4] at h3
    rw [← h3, ← h2]
    exact h1
  · rw [cd_app, cd_app, show ((b : Int) + 1) = ((b + 1 : Nat) : Int) by omega, show ((e : Int) + 1) = ((e + 1 : Nat) : Int) by omega, cutS_to, cutS_nat, cutS_from, List.append_assoc]
    rw [show min b t.length = b by omega, show min (b + 1) t.length = b + 1 by omega, show min e t.length = e by omega, show min (e + 1) t.length = e + 1 by omega]
section
variable {P : Program} {w : World} {K : PySem.W.Frag} {mg : Str → Option Value} {base : Heap}
theorem ok_law {f fB fN fT fR fS fP fD fG fI : Addr} {fd dB dN dT dR dS dP dD dG dI : FuncData} (F : Fun K "law" "law" sLaw f fd) (BG : Fk P w K mg base 1 "_law_bag" fB dB ["_law_script", "_law_k"] (spBag K)) (NM : Fk P w K mg base 2 "_law_names" fN dN ["_law_bag_here", "_law_many"] spNames)
    (TK : Fk P w K mg base 1 "_law_take" fT dT ["_law_bag_here", "_law_many"] spTake) (TR : Fk P w K mg base 8 "_law_tree" fR dR ["_law_bag_here", "_law_names_here", "_law_deep"] (spTrees 6))
    (SE : Fk P w K mg base 18 "show_expression" fS dS ["tree"] (spShow 6)) (PT : Fk P w K mg base 2 "_law_parts" fP dP ["_law_text"] spParts) (RD : Fk P w K mg base 3 "_law_read" fD dD ["_law_parts_here"] spRead)
    (PR : Fk P w K mg base 1 "_law_pairs" fG dG ["_law_text"] spPairs) (SP : Fk P w K mg base 3 "_law_is_spaced" fI dI ["_law_text"] spSpaced) (T : Bi mg) : FnOk P w K mg base CX0 19 f fd ["_law_script"] (spLaw K) := by
  refine F.ok scLaw (fun vs H Q E h => ?_) (fun cdv A outer s H vs Q E hr h => ?_)
  · obtain ⟨a, ns, rfl, _⟩ := h
    rfl
  obtain ⟨a, ns, rfl, hS, h63, q⟩ := h
  refine ⟨_, (pss_cons (ps_for PassesOwn.never rfl (pi_range1 (by rfl) T.range (pa_cons (pe_callB (call_max2 rfl) (by rfl) T.max (by decide +kernel) (pa_cons pe_int (pa_cons (pe_callB (call_min2 rfl) (by rfl) T.min (by decide +kernel) (pa_cons pe_int (pa_cons (pe_callB call_len_seq (by rfl) T.len (by decide +kernel) (pa_cons (pv 0) pa_nil)) pa_nil))) pa_nil))) pa_nil)) (pg_name (i := 1) scLaw.nd rfl (.inl rfl))
      (pss_cons (ps_set (i := 2) scLaw.nd rfl (Or.inl rfl) (pe_call BG.G (hr.mono (by omega)) (by rfl) BG.m BG.k BG.b .nil pass0 (pa_cons (pv 0) (pa_cons (pv 1) pa_nil))))
    (pss_cons (ps_set (i := 3) scLaw.nd rfl (Or.inl rfl) (pe_call NM.G (hr.mono (by omega)) (by rfl) NM.m NM.k NM.b .nil pass0 (pa_cons (pv 2) (pa_cons pe_int pa_nil))))
    (pss_one (ps_for PassesOwn.never rfl (pi_list (pe_lst (pa_cons (pe_call TR.G (hr.mono (by omega)) (by rfl) TR.m TR.k TR.b .nil pass0 (pa_cons (pv 2) (pa_cons (pv 3) (pa_cons pe_int pa_nil)))) (pa_cons (pe_call TR.G (hr.mono (by omega)) (by rfl) TR.m TR.k TR.b .nil pass0 (pa_cons (pv 2) (pa_cons (pv 3) (pa_cons (pe_op op_add pe_int (pe_call TK.G (hr.mono (by omega)) (by rfl) TK.m TK.k TK.b .nil pass0 (pa_cons (pv 2) (pa_cons pe_int pa_nil)))) pa_nil)))) pa_nil)))) (pg_name (i := 4) scLaw.nd rfl (.inl rfl))
      (pss_cons (ps_set (i := 5) scLaw.nd rfl (Or.inl rfl) (pe_call SE.G (hr.mono (by omega)) (by rfl) SE.m SE.k SE.b .nil pass0 (pa_cons (pv 4) pa_nil)))
    (pss_cons (ps_if (PW.pt (pw_or (pt_not (pt_val (pe_callB call_isi (by rfl) T.isinstance (by decide +kernel) (pa_cons (pv 5) (pa_cons (pe_bltn (v := .ty "str") (by rfl) T.str (by decide +kernel) rfl) pa_nil))))) (pw_or (pt_cmpR op_isN (pe_call PT.G (hr.mono (by omega)) (by rfl) PT.m PT.k PT.b .nil pass0 (pa_cons (pv 5) pa_nil)) pe_non (nomark _)) (pw_or1 (pt_cmpR op_ne (pe_bm PySem.F.plainAttrs_str PySem.F.slot_str_count PySem.F.type_str_count mt_count (pv 5) (pa_cons pe_str pa_nil)) (pe_bm PySem.F.plainAttrs_str PySem.F.slot_str_count PySem.F.type_str_count mt_count (pv 5) (pa_cons pe_str pa_nil)) (nomark _))))))
      (pss_one (ps_ret pe_bl))
      pss_nil)
    (pss_cons (ps_if (PW.pt (pw_or (pt_cmpR (op_neD hr.units) (pe_call RD.G (hr.mono (by omega)) (by rfl) RD.m RD.k RD.b .nil pass0 (pa_cons (pe_call PT.G (hr.mono (by omega)) (by rfl) PT.m PT.k PT.b .nil pass0 (pa_cons (pv 5) pa_nil)) pa_nil)) (pv 4) (nomark _)) (pw_or1 (pt_not (pt_val (pe_call SP.G (hr.mono (by omega)) (by rfl) SP.m SP.k SP.b .nil pass0 (pa_cons (pv 5) pa_nil)))))))
      (pss_one (ps_ret pe_bl))
      pss_nil)
    (pss_one (ps_for PassesOwn.never rfl (pi_list (pe_call PR.G (hr.mono (by omega)) (by rfl) PR.m PR.k PR.b .nil pass0 (pa_cons (pv 5) pa_nil))) (pg_tup rfl (pgs_cons (pg_name (i := 6) scLaw.nd rfl (.inl rfl)) (pgs_cons (pg_name (i := 7) scLaw.nd rfl (.inl rfl)) pgs_nil)))
      (pss_cons (ps_set (i := 8) scLaw.nd rfl (Or.inl rfl) (pe_op op_add_str (pe_op op_add_str (pe_slice sl_str (pv 5) po_none (po_some (pv 6))) (pe_slice sl_str (pv 5) (po_some (pe_op op_add (pv 6) pe_int)) (po_some (pv 7)))) (pe_slice sl_str (pv 5) (po_some (pe_op op_add (pv 7) pe_int)) po_none)))
    (pss_one (ps_if (pt_cmpR (op_eqD hr.units) (pe_call RD.G (hr.mono (by omega)) (by rfl) RD.m RD.k RD.b .nil pass0 (pa_cons (pe_call PT.G (hr.mono (by omega)) (by rfl) PT.m PT.k PT.b .nil pass0 (pa_cons (pv 8) pa_nil)) pa_nil)) (pv 4) (nomark _))
      (pss_one (ps_ret pe_bl))
      pss_nil)))))))))))))
    (pss_one (ps_ret pe_bl))), ?_⟩
  have hs : sizeLine = 16777216 := by decide
  have hnum : ∃ N : Int, N = (if (if ((ns.map V.int).length : Int) < 5 then ((ns.map V.int).length : Int) else 5) > 3 then (if ((ns.map V.int).length : Int) < 5 then ((ns.map V.int).length : Int) else 5) else 3) ∧ 0 ≤ N ∧ N ≤ 5 := by
    refine ⟨_, rfl, ?_, ?_⟩ <;> (split <;> (try split) <;> omega)
  obtain ⟨N, eN, N0, N5⟩ := hnum
  refine ⟨_, rfl, a, _, rfl, .inl hS, _, _, rfl, _, _, rfl, N, (by rw [eN]), by omega, by omega, ?_⟩
  refine for_range (lo := 0) (n := N.toNat) (fun i σ H' => ∃ (y2 y3 y4 y5 y6 y7 y8 y9 : Option V), σ = [some (.ref a), y2, y3, y4, y5, y6, y7, y8, y9] ∧ Same H H') ?_ ?_ ?_
  · exact ⟨none, none, none, none, none, none, none, none, rfl, Same.refl H⟩
  · rintro i σ H1 hi ⟨y2, y3, y4, y5, y6, y7, y8, y9, rfl, sH⟩
    have hi5 : i < 5 := by omega
    refine ⟨_, rfl, _, rfl, a, ns, 0 + (i : Int), rfl, sH.seq hS, by omega, by omega, fun b H2 s2 nb B2 => ?_⟩
    refine ⟨_, rfl, b, 3, 900000, rfl, by decide, B2.less (by decide), fun pn nm H3 npn hpn lnm okn B3 U3 => ?_⟩
    have s3 : Same H1 H3 := fresh_but s2 nb U3
    have npb : pn ≠ b := fun z => by obtain ⟨ys, hy⟩ := B2.lst; rw [z, hy] at npn; cases npn
    have hnm : ∀ s ∈ nm, nmOk s := fun s hs' => (okn.each s hs').1
    refine ⟨_, rfl, _, rfl, 6, Nat.le_refl _, b, pn, nm, 600000, rfl, hpn, npb, by omega, hnm, by decide, B3.less (by decide), fun v1 e1 H4 t1 o1 B4 U4 => ?_⟩
    have hpn4 := U4 _ _ npb hpn
    refine ⟨_, rfl, _, rfl, _, rfl, b, 4, 500000, rfl, by decide, by decide, B4.less (by decide), fun d1 H5 a1 a2 B5 U5 => ?_⟩
    have hpn5 := U5 _ _ npb hpn4
    have ed : ((2 + d1).toNat : Int) = 2 + d1 := Int.toNat_of_nonneg (by omega)
    have tcs : tc (2 + d1).toNat ≤ 756 := by
      rcases (show d1 = 0 ∨ d1 = 1 ∨ d1 = 2 ∨ d1 = 3 by omega) with rfl | rfl | rfl | rfl <;> decide
    refine ⟨_, _, rfl, rfl, (2 + d1).toNat, by omega, b, pn, nm, 400000, (by show [V.ref b, V.ref pn, V.int (2 + d1)] = _; rw [ed]), hpn5, npb, by omega, hnm, by omega, B5.less (by omega), fun v2 e2 H6 t2 o2 B6 U6 => ?_⟩
    refine ⟨(by show 2 ≤ sizeLine; decide), fun so hso => ?_⟩
    obtain ⟨ys4, hys4⟩ := B4.lst
    have t1' : TrIn H6 e1 v1 := t1.but hys4 (U5.trans U6)
    have u7 := same_new hso (.lst [v1, v2])
    have hso7 : (upd H6 so (.lst [v1, v2])) so = some (.lst [v1, v2]) := upd_same
    have tt : Trs (upd H6 so (.lst [v1, v2])) [v1, v2] := by
      intro v hv
      have hv' : v = v1 ∨ v = v2 := by simpa using hv
      rcases hv' with rfl | rfl
      · exact ⟨e1, t1'.same u7, of_trok okn.each (Nat.le_refl _) o1⟩
      · exact ⟨e2, t2.same u7, of_trok okn.each (by omega) o2⟩
    have s7 : Same H1 (upd H6 so (.lst [v1, v2])) := (fresh_but s3 nb (U4.trans (U5.trans U6))).trans u7
    have sH7 := sH.trans s7
    generalize upd H6 so (.lst [v1, v2]) = H7 at u7 hso7 tt s7 sH7
    refine ⟨so, rfl, ⟨_, SqL.of hso7⟩, ?_⟩
    refine for_list (K := K) (a := so) (xs := [v1, v2]) (fun j σ H' => ∃ (z5 z6 z7 z8 z9 : Option V), σ = [some (.ref a), some (.int (0 + (i : Int))), some (.ref b), some (.ref pn), z5, z6, z7, z8, z9] ∧ Same H7 H') ?_ ?_ ?_ ?_
    · exact ⟨_, _, _, _, _, rfl, Same.refl _⟩
    · rintro j σ' H' _ ⟨z5, z6, z7, z8, z9, rfl, h1⟩
      exact SqL.of (h1 _ _ hso7)
    · rintro j v σ' H8 hv ⟨z5, z6, z7, z8, z9, rfl, S8⟩
      obtain ⟨e, te, oe⟩ := tt v (List.mem_of_getElem? hv)
      have te8 := te.same S8
      have hlen := oe.len
      have hlse : Lse false e.pcs := by have := Ex.lse e [] trivial; rwa [List.append_nil] at this
      have hpok := Ex.pok e oe.fit
      have etk := Ex.toks e
      refine ⟨_, rfl, v, e, rfl, te8, oe.ok, ?_⟩
      refine ⟨_, rfl, _, _, _, _, true, rfl, .ty "str", .base (.str _), kit_ty (by decide +kernel), _, rfl, ?_⟩
      refine iteF ?_
      refine ⟨_, rfl, e.txt, e.pcs, rfl, (Ex.flat e).symm, hpok, hlse, by omega, fun p1 H9 S9 np1 hp1 => ?_⟩
      refine ⟨rfl, _, rfl, ?_⟩
      rw [decide_eq_false (by intro z; cases z)]
      refine iteF ?_
      refine ⟨_, rfl, rfl, _, _, rfl, rfl, _, rfl, rfl, _, _, rfl, rfl, rfl, _, rfl, ?_⟩
      rw [show PySem.Txt.count e.txt ("(" : Str) = (((cd e.txt).count 40 : Nat) : Int) from count_sign e.txt 40, show PySem.Txt.count e.txt (")" : Str) = (((cd e.txt).count 41 : Nat) : Int) from count_sign e.txt 41, (Ex.bal e oe.fit).2]
      rw [decide_eq_true rfl]
      refine iteF ?_
      rw [etk] at hp1
      have te9 := te8.same S9
      have ntk : e.tks.length ≤ 300000 := by
        have := (toks_sum hpok).2
        rw [etk, Ex.flat, cd_len] at this
        omega
      refine ⟨_, rfl, e.txt, e.pcs, rfl, (Ex.flat e).symm, hpok, hlse, by omega, fun p2 H10 S10 np2 hp2 => ?_⟩
      rw [etk] at hp2
      refine ⟨p2, e.tks, rfl, hp2, oe.tok, by omega, fun v3 H11 S11 o3 => ?_⟩
      rw [res_ex oe.dep] at o3
      have te11 := (te9.same S10).same S11
      have sh := Ex.pdt_shaped oe.fit (by have := oe.dep; omega)
      refine ⟨_, rfl, e.pdt, e.pdt, Ex.pdp o3, Ex.pdp te11, sh, sh, _, rfl, ?_⟩
      rw [show PyData.eqv e.pdt e.pdt = true from (eqv_iff (Ex.pdt_plain e) (Ex.pdt_plain e)).mpr rfl]
      refine iteF ?_
      refine ⟨_, rfl, e, rfl, oe.fit, hlen, fun H12 S12 => ⟨_, rfl, ?_⟩⟩
      refine iteF ?_
      have te12 := te11.same S12
      have S812 : Same H8 H12 := S9.trans (S10.trans (S11.trans S12))
      refine ⟨_, rfl, e.txt, rfl, Ex.bal e oe.fit, by omega, fun p4 us H13 S13 np4 hp4 hus => ?_⟩
      refine ⟨p4, rfl, ⟨_, SqL.of hp4⟩, ?_⟩
      have te13 := te12.same S13
      refine for_list (K := K) (a := p4) (xs := us) (fun m σ H' => ∃ (z7 z8 z9 : Option V), σ = [some (.ref a), some (.int (0 + (i : Int))), some (.ref b), some (.ref pn), some v, some (.str e.txt), z7, z8, z9] ∧ Same H13 H') ?_ ?_ ?_ ?_
      · exact ⟨_, _, _, rfl, Same.refl _⟩
      · rintro m σ'' H' _ ⟨z7, z8, z9, rfl, h1⟩
        exact SqL.of (h1 _ _ hp4)
      · rintro m x σ'' H14 hx ⟨z7, z8, z9, rfl, S14⟩
        obtain ⟨ax, bb, ee, rfl, hax, hbe, hb40, he41⟩ := hus x (List.mem_of_getElem? hx)
        have hax' := S14 _ _ hax
        refine ⟨ax, _, rfl, SqT.of hax', rfl, _, _, rfl, _, _, rfl, rfl, ?_⟩
        obtain ⟨A1, M1, B1, ec1, ec2⟩ := less_text hbe hb40 he41
        obtain ⟨qs, f1, f2, f3, f4, f5⟩ := less_pcs hpok hlse (by rw [Ex.flat]; exact ec1)
        have lA : A1.length + (M1.length + B1.length) ≤ 300000 := by
          have := congrArg List.length ec1
          rw [cd_len, List.length_append, List.length_cons, List.length_append, List.length_cons] at this
          omega
        have ltot := congrArg List.length ec2
        rw [cd_len, List.length_append, List.length_append] at ltot
        have la := app_len (cutS e.txt none (some (bb : Int)) ++ cutS e.txt (some ((bb : Int) + 1)) (some (ee : Int))) (cutS e.txt (some ((ee : Int) + 1)) none)
        have lb := app_len (cutS e.txt none (some (bb : Int))) (cutS e.txt (some ((bb : Int) + 1)) (some (ee : Int)))
        refine ⟨_, rfl, _, rfl, _, rfl, _, rfl, by omega, _, rfl, _, rfl, _, _, rfl, rfl, _, rfl, _, rfl, _, rfl, _, rfl, by omega, _, _, rfl, rfl, by omega, _, rfl, _, rfl, _, _, rfl, rfl, _, rfl, _, rfl, by omega, _, _, rfl, rfl, by omega, ?_⟩
        generalize hless : cutS e.txt none (some (bb : Int)) ++ cutS e.txt (some ((bb : Int) + 1)) (some (ee : Int)) ++ cutS e.txt (some ((ee : Int) + 1)) none = less at ec2 ltot la
        refine ⟨_, rfl, less, qs, rfl, by rw [f1, ec2], f2, f3, by omega, fun p5 H15 S15 np5 hp5 => ?_⟩
        have htq : ∀ t ∈ toks qs, TOk t := fun t ht => by
          obtain ⟨x, hx1, hx2⟩ := List.mem_filterMap.mp ht
          refine oe.tok t ?_
          rw [← etk]
          exact List.mem_filterMap.mpr ⟨x, f5 x hx1, hx2⟩
        have lq : (toks qs).length ≤ 500000 := by
          have h1 := (toks_sum f2).2
          rw [f1, List.length_append, List.length_append] at h1
          omega
        refine ⟨p5, toks qs, rfl, hp5, htq, lq, fun v6 H16 S16 o6 => ?_⟩
        have te16 := ((te13.same S14).same S15).same S16
        have hno : resM (toks qs) ≠ some e := fun z => by
          have h1 := res_nb z
          have h2 := Ex.lps e
          rw [etk] at f4
          omega
        have shq : SeqAt.shaped (optPd (resM (toks qs))) = true := by
          cases hr2 : resM (toks qs) with
          | none => rfl
          | some e' =>
            obtain ⟨h1, h2⟩ := res_oo (fun t ht => (htq t ht).1) hr2
            exact Ex.pdt_shaped h1 (by omega)
        refine ⟨_, rfl, optPd (resM (toks qs)), e.pdt, optPd_dp o6, Ex.pdp te16, shq, sh, _, rfl, ?_⟩
        rw [optPd_ne hno]
        refine iteF ?_
        exact ⟨_, _, _, rfl, S14.trans (S15.trans S16)⟩
      · rintro σ'' H14 ⟨z7, z8, z9, rfl, S14⟩
        exact ⟨_, _, _, _, _, rfl, S8.trans (S812.trans (S13.trans S14))⟩
    · rintro σ' H8 ⟨z5, z6, z7, z8, z9, rfl, S8⟩
      exact ⟨_, _, _, _, _, _, _, _, rfl, sH7.trans S8⟩
  · rintro σ H1 ⟨y2, y3, y4, y5, y6, y7, y8, y9, rfl, sH⟩
    exact q _
end
end SH

set_option Elab.async false
set_option linter.all false
set_option maxRecDepth 100000
namespace SH
open PySem L2
theorem all_mk {l : PySem.W.OpenLaw} {w : World} {K : PySem.W.Frag} {h : Heap} {mg : Str → Option Value} {fa f0 f1 f2 f3 f4 f5 f6 f7 f8 f9 f10 f11 f12 f13 f14 f15 f16 f17 f18 f19 f20 : Addr} (X : K.In h) (G : h.Ns mainGlobals mg) (hfa : mg "law" = some (.ref fa))
    {od0 an0 od1 an1 od2 an2 od3 an3 od4 an4 od5 an5 od6 an6 od7 an7 od8 an8 od9 an9 od10 an10 od11 an11 od12 an12 od13 an13 od14 an14 od15 an15 od16 an16 od17 an17 od18 an18 od19 an19 od20 an20 : Option Addr} {sl0 sl1 sl2 sl3 sl4 sl5 sl6 sl7 sl8 sl9 sl10 sl11 sl12 sl13 sl14 sl15 sl16 sl17 sl18 sl19 sl20 : Array (Option Value)} {oc0 kV0 dc0 pm0 cd0 ct0 oc1 kV1 dc1 pm1 cd1 ct1 oc2 kV2 dc2 pm2 cd2 ct2 oc3 kV3 dc3 pm3 cd3 ct3 oc4 kV4 dc4 pm4 cd4 ct4 oc5 kV5 dc5 pm5 cd5 ct5 oc6 kV6 dc6 pm6 cd6 ct6 oc7 kV7 dc7 pm7 cd7 ct7 oc8 kV8 dc8 pm8 cd8 ct8 oc9 kV9 dc9 pm9 cd9 ct9 oc10 kV10 dc10 pm10 cd10 ct10 oc11 kV11 dc11 pm11 cd11 ct11 oc12 kV12 dc12 pm12 cd12 ct12 oc13 kV13 dc13 pm13 cd13 ct13 oc14 kV14 dc14 pm14 cd14 ct14 oc15 kV15 dc15 pm15 cd15 ct15 oc16 kV16 dc16 pm16 cd16 ct16 oc17 kV17 dc17 pm17 cd17 ct17 oc18 kV18 dc18 pm18 cd18 ct18 oc19 kV19 dc19 pm19 cd19 ct19 oc20 kV20 dc20 pm20 cd20 ct20 : Value}
    (a0 : PySem.W.nsIn K mainGlobals "show_expression" = some (some (.ref f0))) (l0 : K.lookup f0 = some ⟨oc0, od0, .func (PySem.W.fnOf "show_expression" "show_expression" (defArgs sShow) (defBody sShow) (defScope sShow) .none kV0 dc0 pm0 an0 cd0 ct0), sl0⟩) (c0 : PySem.W.codeIn K cd0 "show_expression" = true) (k0 : PySem.W.keepIn K (.ref f0) = true)
    (a1 : PySem.W.nsIn K mainGlobals "binding_of" = some (some (.ref f1))) (l1 : K.lookup f1 = some ⟨oc1, od1, .func (PySem.W.fnOf "binding_of" "binding_of" (defArgs sBind) (defBody sBind) (defScope sBind) .none kV1 dc1 pm1 an1 cd1 ct1), sl1⟩) (c1 : PySem.W.codeIn K cd1 "binding_of" = true) (k1 : PySem.W.keepIn K (.ref f1) = true)
    (a2 : PySem.W.nsIn K mainGlobals "show_left" = some (some (.ref f2))) (l2 : K.lookup f2 = some ⟨oc2, od2, .func (PySem.W.fnOf "show_left" "show_left" (defArgs sLeft) (defBody sLeft) (defScope sLeft) .none kV2 dc2 pm2 an2 cd2 ct2), sl2⟩) (c2 : PySem.W.codeIn K cd2 "show_left" = true) (k2 : PySem.W.keepIn K (.ref f2) = true)
    (a3 : PySem.W.nsIn K mainGlobals "show_right" = some (some (.ref f3))) (l3 : K.lookup f3 = some ⟨oc3, od3, .func (PySem.W.fnOf "show_right" "show_right" (defArgs sRight) (defBody sRight) (defScope sRight) .none kV3 dc3 pm3 an3 cd3 ct3), sl3⟩) (c3 : PySem.W.codeIn K cd3 "show_right" = true) (k3 : PySem.W.keepIn K (.ref f3) = true)
    (a4 : PySem.W.nsIn K mainGlobals "show_part" = some (some (.ref f4))) (l4 : K.lookup f4 = some ⟨oc4, od4, .func (PySem.W.fnOf "show_part" "show_part" (defArgs sPart) (defBody sPart) (defScope sPart) .none kV4 dc4 pm4 an4 cd4 ct4), sl4⟩) (c4 : PySem.W.codeIn K cd4 "show_part" = true) (k4 : PySem.W.keepIn K (.ref f4) = true)
    (a5 : PySem.W.nsIn K mainGlobals "_law_bag" = some (some (.ref f5))) (l5 : K.lookup f5 = some ⟨oc5, od5, .func (PySem.W.fnOf "_law_bag" "_law_bag" (defArgs sBag) (defBody sBag) (defScope sBag) .none kV5 dc5 pm5 an5 cd5 ct5), sl5⟩) (c5 : PySem.W.codeIn K cd5 "_law_bag" = true) (k5 : PySem.W.keepIn K (.ref f5) = true)
    (a6 : PySem.W.nsIn K mainGlobals "_law_take" = some (some (.ref f6))) (l6 : K.lookup f6 = some ⟨oc6, od6, .func (PySem.W.fnOf "_law_take" "_law_take" (defArgs sTake) (defBody sTake) (defScope sTake) .none kV6 dc6 pm6 an6 cd6 ct6), sl6⟩) (c6 : PySem.W.codeIn K cd6 "_law_take" = true) (k6 : PySem.W.keepIn K (.ref f6) = true)
    (a7 : PySem.W.nsIn K mainGlobals "_law_kept" = some (some (.ref f7))) (l7 : K.lookup f7 = some ⟨oc7, od7, .func (PySem.W.fnOf "_law_kept" "_law_kept" (defArgs sKept) (defBody sKept) (defScope sKept) .none kV7 dc7 pm7 an7 cd7 ct7), sl7⟩) (c7 : PySem.W.codeIn K cd7 "_law_kept" = true) (k7 : PySem.W.keepIn K (.ref f7) = true)
    (a8 : PySem.W.nsIn K mainGlobals "_law_names" = some (some (.ref f8))) (l8 : K.lookup f8 = some ⟨oc8, od8, .func (PySem.W.fnOf "_law_names" "_law_names" (defArgs sNames) (defBody sNames) (defScope sNames) .none kV8 dc8 pm8 an8 cd8 ct8), sl8⟩) (c8 : PySem.W.codeIn K cd8 "_law_names" = true) (k8 : PySem.W.keepIn K (.ref f8) = true)
    (a9 : PySem.W.nsIn K mainGlobals "_law_number" = some (some (.ref f9))) (l9 : K.lookup f9 = some ⟨oc9, od9, .func (PySem.W.fnOf "_law_number" "_law_number" (defArgs sNumber) (defBody sNumber) (defScope sNumber) .none kV9 dc9 pm9 an9 cd9 ct9), sl9⟩) (c9 : PySem.W.codeIn K cd9 "_law_number" = true) (k9 : PySem.W.keepIn K (.ref f9) = true)
    (a10 : PySem.W.nsIn K mainGlobals "_law_tree" = some (some (.ref f10))) (l10 : K.lookup f10 = some ⟨oc10, od10, .func (PySem.W.fnOf "_law_tree" "_law_tree" (defArgs sTree) (defBody sTree) (defScope sTree) .none kV10 dc10 pm10 an10 cd10 ct10), sl10⟩) (c10 : PySem.W.codeIn K cd10 "_law_tree" = true) (k10 : PySem.W.keepIn K (.ref f10) = true)
    (a11 : PySem.W.nsIn K mainGlobals "_law_kind" = some (some (.ref f11))) (l11 : K.lookup f11 = some ⟨oc11, od11, .func (PySem.W.fnOf "_law_kind" "_law_kind" (defArgs sKind) (defBody sKind) (defScope sKind) .none kV11 dc11 pm11 an11 cd11 ct11), sl11⟩) (c11 : PySem.W.codeIn K cd11 "_law_kind" = true) (k11 : PySem.W.keepIn K (.ref f11) = true)
    (a12 : PySem.W.nsIn K mainGlobals "_law_parts" = some (some (.ref f12))) (l12 : K.lookup f12 = some ⟨oc12, od12, .func (PySem.W.fnOf "_law_parts" "_law_parts" (defArgs sParts) (defBody sParts) (defScope sParts) .none kV12 dc12 pm12 an12 cd12 ct12), sl12⟩) (c12 : PySem.W.codeIn K cd12 "_law_parts" = true) (k12 : PySem.W.keepIn K (.ref f12) = true)
    (a13 : PySem.W.nsIn K mainGlobals "_law_is_title" = some (some (.ref f13))) (l13 : K.lookup f13 = some ⟨oc13, od13, .func (PySem.W.fnOf "_law_is_title" "_law_is_title" (defArgs sTitle) (defBody sTitle) (defScope sTitle) .none kV13 dc13 pm13 an13 cd13 ct13), sl13⟩) (c13 : PySem.W.codeIn K cd13 "_law_is_title" = true) (k13 : PySem.W.keepIn K (.ref f13) = true)
    (a14 : PySem.W.nsIn K mainGlobals "_law_fold" = some (some (.ref f14))) (l14 : K.lookup f14 = some ⟨oc14, od14, .func (PySem.W.fnOf "_law_fold" "_law_fold" (defArgs sFold) (defBody sFold) (defScope sFold) .none kV14 dc14 pm14 an14 cd14 ct14), sl14⟩) (c14 : PySem.W.codeIn K cd14 "_law_fold" = true) (k14 : PySem.W.keepIn K (.ref f14) = true)
    (a15 : PySem.W.nsIn K mainGlobals "_law_closed" = some (some (.ref f15))) (l15 : K.lookup f15 = some ⟨oc15, od15, .func (PySem.W.fnOf "_law_closed" "_law_closed" (defArgs sClosed) (defBody sClosed) (defScope sClosed) .none kV15 dc15 pm15 an15 cd15 ct15), sl15⟩) (c15 : PySem.W.codeIn K cd15 "_law_closed" = true) (k15 : PySem.W.keepIn K (.ref f15) = true)
    (a16 : PySem.W.nsIn K mainGlobals "_law_signed" = some (some (.ref f16))) (l16 : K.lookup f16 = some ⟨oc16, od16, .func (PySem.W.fnOf "_law_signed" "_law_signed" (defArgs sSigned) (defBody sSigned) (defScope sSigned) .none kV16 dc16 pm16 an16 cd16 ct16), sl16⟩) (c16 : PySem.W.codeIn K cd16 "_law_signed" = true) (k16 : PySem.W.keepIn K (.ref f16) = true)
    (a17 : PySem.W.nsIn K mainGlobals "_law_read" = some (some (.ref f17))) (l17 : K.lookup f17 = some ⟨oc17, od17, .func (PySem.W.fnOf "_law_read" "_law_read" (defArgs sRead) (defBody sRead) (defScope sRead) .none kV17 dc17 pm17 an17 cd17 ct17), sl17⟩) (c17 : PySem.W.codeIn K cd17 "_law_read" = true) (k17 : PySem.W.keepIn K (.ref f17) = true)
    (a18 : PySem.W.nsIn K mainGlobals "_law_pairs" = some (some (.ref f18))) (l18 : K.lookup f18 = some ⟨oc18, od18, .func (PySem.W.fnOf "_law_pairs" "_law_pairs" (defArgs sPairs) (defBody sPairs) (defScope sPairs) .none kV18 dc18 pm18 an18 cd18 ct18), sl18⟩) (c18 : PySem.W.codeIn K cd18 "_law_pairs" = true) (k18 : PySem.W.keepIn K (.ref f18) = true)
    (a19 : PySem.W.nsIn K mainGlobals "_law_is_spaced" = some (some (.ref f19))) (l19 : K.lookup f19 = some ⟨oc19, od19, .func (PySem.W.fnOf "_law_is_spaced" "_law_is_spaced" (defArgs sSpaced) (defBody sSpaced) (defScope sSpaced) .none kV19 dc19 pm19 an19 cd19 ct19), sl19⟩) (c19 : PySem.W.codeIn K cd19 "_law_is_spaced" = true) (k19 : PySem.W.keepIn K (.ref f19) = true)
    (a20 : PySem.W.nsIn K mainGlobals "law" = some (some (.ref f20))) (l20 : K.lookup f20 = some ⟨oc20, od20, .func (PySem.W.fnOf "law" "law" (defArgs sLaw) (defBody sLaw) (defScope sLaw) .none kV20 dc20 pm20 an20 cd20 ct20), sl20⟩) (c20 : PySem.W.codeIn K cd20 "law" = true) (k20 : PySem.W.keepIn K (.ref f20) = true)
    (z_len : PySem.W.nsIn K mainGlobals "len" = some none)
    (z_abs : PySem.W.nsIn K mainGlobals "abs" = some none)
    (z_int : PySem.W.nsIn K mainGlobals "int" = some none)
    (z_str : PySem.W.nsIn K mainGlobals "str" = some none)
    (z_range : PySem.W.nsIn K mainGlobals "range" = some none)
    (z_max : PySem.W.nsIn K mainGlobals "max" = some none)
    (z_min : PySem.W.nsIn K mainGlobals "min" = some none)
    (z_isinstance : PySem.W.nsIn K mainGlobals "isinstance" = some none)
    (z_all : PySem.W.nsIn K mainGlobals "all" = some none)
    (z_enumerate : PySem.W.nsIn K mainGlobals "enumerate" = some none) {aB : Addr} {tC tL : Tok} {esB : Array DictEntry} {nB : Nat} {u1 u2 u3 u4 u5 : Tok} (gB : PySem.W.nsIn K mainGlobals "BINDING" = some (some (.ref aB))) (gC : PySem.W.nsIn K mainGlobals "COMPARISON_BINDING" = some (some (.int 1 tC))) (gL : PySem.W.nsIn K mainGlobals "LEAF_BINDING" = some (some (.int 4 tL)))
    (lB0 : K.lookup aB = some ⟨.type "dict", none, .dict esB nB, #[]⟩) (kB0 : PySem.W.KeysLit w.params esB.toList) (low0 : (aB == sysModules) = false)
    (n1 : PySem.W.nsIn K aB "+" = some (some (.int 2 u1))) (n2 : PySem.W.nsIn K aB "-" = some (some (.int 2 u2))) (n3 : PySem.W.nsIn K aB "*" = some (some (.int 3 u3))) (n4 : PySem.W.nsIn K aB "<" = some (some (.int 1 u4))) (n5 : PySem.W.nsIn K aB "==" = some (some (.int 1 u5)))
    (n6 : PySem.W.nsIn K aB "number" = some none) (n7 : PySem.W.nsIn K aB "name" = some none)
    : ∃ fd : FuncData, (∀ (s : Shared) (v : Value), BindsTo s fd ⟨[v], []⟩ [("_law_script", v)]) ∧ ∀ base : Heap, K.In base → base.Ns mainGlobals mg → FnOk l.prog w K mg base CX0 19 fa fd ["_law_script"] (spLaw K) := by
  have e := hfa.symm.trans (PySem.W.mg_of X G a20)
  cases e
  have F0 := fun_mk (st := sShow) l0 c0 k0
  have b0 := F0.binds (ps := ["tree"]) fun _ _ _ _ _ _ us hl => match us, hl with | [_], _ => rfl
  have m0 := PySem.W.mg_of X G a0
  have F1 := fun_mk (st := sBind) l1 c1 k1
  have b1 := F1.binds (ps := ["tree"]) fun _ _ _ _ _ _ us hl => match us, hl with | [_], _ => rfl
  have m1 := PySem.W.mg_of X G a1
  have F2 := fun_mk (st := sLeft) l2 c2 k2
  have b2 := F2.binds (ps := ["part", "sign"]) fun _ _ _ _ _ _ us hl => match us, hl with | [_, _], _ => rfl
  have m2 := PySem.W.mg_of X G a2
  have F3 := fun_mk (st := sRight) l3 c3 k3
  have b3 := F3.binds (ps := ["part", "sign"]) fun _ _ _ _ _ _ us hl => match us, hl with | [_, _], _ => rfl
  have m3 := PySem.W.mg_of X G a3
  have F4 := fun_mk (st := sPart) l4 c4 k4
  have b4 := F4.binds (ps := ["part", "in_brackets"]) fun _ _ _ _ _ _ us hl => match us, hl with | [_, _], _ => rfl
  have m4 := PySem.W.mg_of X G a4
  have F5 := fun_mk (st := sBag) l5 c5 k5
  have b5 := F5.binds (ps := ["_law_script", "_law_k"]) fun _ _ _ _ _ _ us hl => match us, hl with | [_, _], _ => rfl
  have m5 := PySem.W.mg_of X G a5
  have F6 := fun_mk (st := sTake) l6 c6 k6
  have b6 := F6.binds (ps := ["_law_bag_here", "_law_many"]) fun _ _ _ _ _ _ us hl => match us, hl with | [_, _], _ => rfl
  have m6 := PySem.W.mg_of X G a6
  have F7 := fun_mk (st := sKept) l7 c7 k7
  have b7 := F7.binds (ps := []) fun _ _ _ _ _ _ us hl => match us, hl with | [], _ => rfl
  have m7 := PySem.W.mg_of X G a7
  have F8 := fun_mk (st := sNames) l8 c8 k8
  have b8 := F8.binds (ps := ["_law_bag_here", "_law_many"]) fun _ _ _ _ _ _ us hl => match us, hl with | [_, _], _ => rfl
  have m8 := PySem.W.mg_of X G a8
  have F9 := fun_mk (st := sNumber) l9 c9 k9
  have b9 := F9.binds (ps := ["_law_bag_here"]) fun _ _ _ _ _ _ us hl => match us, hl with | [_], _ => rfl
  have m9 := PySem.W.mg_of X G a9
  have F10 := fun_mk (st := sTree) l10 c10 k10
  have b10 := F10.binds (ps := ["_law_bag_here", "_law_names_here", "_law_deep"]) fun _ _ _ _ _ _ us hl => match us, hl with | [_, _, _], _ => rfl
  have m10 := PySem.W.mg_of X G a10
  have F11 := fun_mk (st := sKind) l11 c11 k11
  have b11 := F11.binds (ps := ["_law_sign"]) fun _ _ _ _ _ _ us hl => match us, hl with | [_], _ => rfl
  have m11 := PySem.W.mg_of X G a11
  have F12 := fun_mk (st := sParts) l12 c12 k12
  have b12 := F12.binds (ps := ["_law_text"]) fun _ _ _ _ _ _ us hl => match us, hl with | [_], _ => rfl
  have m12 := PySem.W.mg_of X G a12
  have F13 := fun_mk (st := sTitle) l13 c13 k13
  have b13 := F13.binds (ps := ["_law_part"]) fun _ _ _ _ _ _ us hl => match us, hl with | [_], _ => rfl
  have m13 := PySem.W.mg_of X G a13
  have F14 := fun_mk (st := sFold) l14 c14 k14
  have b14 := F14.binds (ps := ["_law_outs", "_law_pile"]) fun _ _ _ _ _ _ us hl => match us, hl with | [_, _], _ => rfl
  have m14 := PySem.W.mg_of X G a14
  have F15 := fun_mk (st := sClosed) l15 c15 k15
  have b15 := F15.binds (ps := ["_law_outs", "_law_pile"]) fun _ _ _ _ _ _ us hl => match us, hl with | [_, _], _ => rfl
  have m15 := PySem.W.mg_of X G a15
  have F16 := fun_mk (st := sSigned) l16 c16 k16
  have b16 := F16.binds (ps := ["_law_outs", "_law_pile", "_law_part"]) fun _ _ _ _ _ _ us hl => match us, hl with | [_, _, _], _ => rfl
  have m16 := PySem.W.mg_of X G a16
  have F17 := fun_mk (st := sRead) l17 c17 k17
  have b17 := F17.binds (ps := ["_law_parts_here"]) fun _ _ _ _ _ _ us hl => match us, hl with | [_], _ => rfl
  have m17 := PySem.W.mg_of X G a17
  have F18 := fun_mk (st := sPairs) l18 c18 k18
  have b18 := F18.binds (ps := ["_law_text"]) fun _ _ _ _ _ _ us hl => match us, hl with | [_], _ => rfl
  have m18 := PySem.W.mg_of X G a18
  have F19 := fun_mk (st := sSpaced) l19 c19 k19
  have b19 := F19.binds (ps := ["_law_text"]) fun _ _ _ _ _ _ us hl => match us, hl with | [_], _ => rfl
  have m19 := PySem.W.mg_of X G a19
  have F20 := fun_mk (st := sLaw) l20 c20 k20
  have m20 := PySem.W.mg_of X G a20
  have T : Bi mg := ⟨PySem.W.mg_none_of X G z_len, PySem.W.mg_none_of X G z_abs, PySem.W.mg_none_of X G z_int, PySem.W.mg_none_of X G z_str, PySem.W.mg_none_of X G z_range, PySem.W.mg_none_of X G z_max, PySem.W.mg_none_of X G z_min, PySem.W.mg_none_of X G z_isinstance, PySem.W.mg_none_of X G z_all⟩
  refine ⟨PySem.W.fnOf "law" "law" (defArgs sLaw) (defBody sLaw) (defScope sLaw) .none kV20 dc20 pm20 an20 cd20 ct20, fun s v => .of_eq rfl, fun base _ _ => ?_⟩
  have B : BindD K w aB := ⟨⟨esB, nB, lB0, kB0⟩, low0, fun g => by
    cases g
    · exact ⟨_, n1, ⟨_, rfl⟩⟩
    · exact ⟨_, n2, ⟨_, rfl⟩⟩
    · exact ⟨_, n3, ⟨_, rfl⟩⟩
    · exact ⟨_, n4, ⟨_, rfl⟩⟩
    · exact ⟨_, n5, ⟨_, rfl⟩⟩, n6, n7⟩
  have SE := shows (P := l.prog) (w := w) (base := base) F0 F1 F2 F3 F4 m0 m1 m2 m3 m4 b0 b1 b2 b3 b4 (PySem.W.mg_of X G gB) B (PySem.W.mg_of X G gC) (PySem.W.mg_of X G gL) T.str 6 (by decide)
  have TK : Fk l.prog w K mg base 1 "_law_take" f6 _ ["_law_bag_here", "_law_many"] spTake := ⟨ok_take F6, m6, k6, b6⟩
  have KP : Fk l.prog w K mg base 1 "_law_kept" f7 _ [] spKept := ⟨ok_kept F7, m7, k7, b7⟩
  have NB : Fk l.prog w K mg base 2 "_law_number" f9 _ ["_law_bag_here"] spNumber := ⟨ok_number F9 TK T, m9, k9, b9⟩
  have KI : Fk l.prog w K mg base 1 "_law_kind" f11 _ ["_law_sign"] spKind := ⟨ok_kind F11 T, m11, k11, b11⟩
  have PT : Fk l.prog w K mg base 2 "_law_parts" f12 _ ["_law_text"] spParts := ⟨ok_parts F12 KI T, m12, k12, b12⟩
  have TI : Fk l.prog w K mg base 2 "_law_is_title" f13 _ ["_law_part"] spTitle := ⟨ok_title F13 KI KP, m13, k13, b13⟩
  have FO : Fk l.prog w K mg base 1 "_law_fold" f14 _ ["_law_outs", "_law_pile"] spFold := ⟨ok_fold F14 T, m14, k14, b14⟩
  have CL : Fk l.prog w K mg base 2 "_law_closed" f15 _ ["_law_outs", "_law_pile"] spClosed := ⟨ok_closed F15 FO T, m15, k15, b15⟩
  have SI' : Fk l.prog w K mg base 2 "_law_signed" f16 _ ["_law_outs", "_law_pile", "_law_part"] spSigned := ⟨ok_signed F16 FO T, m16, k16, b16⟩
  have RD : Fk l.prog w K mg base 3 "_law_read" f17 _ ["_law_parts_here"] spRead := ⟨ok_read F17 KI TI SI' CL T, m17, k17, b17⟩
  have PR : Fk l.prog w K mg base 1 "_law_pairs" f18 _ ["_law_text"] spPairs := ⟨ok_pairs F18 T (PySem.W.mg_none_of X G z_enumerate), m18, k18, b18⟩
  have SP : Fk l.prog w K mg base 3 "_law_is_spaced" f19 _ ["_law_text"] spSpaced := ⟨ok_spaced F19 PT, m19, k19, b19⟩
  exact ok_law F20 ⟨ok_bag F5 T, m5, k5, b5⟩ ⟨ok_names F8 TK KP T, m8, k8, b8⟩ TK ⟨trees_all F10 m10 b10 TK NB T 6, m10, k10, b10⟩ ⟨SE, m0, k0, b0⟩ PT RD PR SP T
theorem walk {l : PySem.W.OpenLaw} {q : Program} {loose : List Str} {XP : (Str → Option Value) → Heap → Prop} {YP : World → Heap → Prop} {d : DefRec} {K : Params → PySem.W.Frag} (hn : l.most = some 63) (hdf : d.params.defaults = [])
    (hY : ∀ (w : World) (h : Heap), YP w h → (K w.params).In h)
    (F : ∀ (w : World) (mg : Str → Option Value) (fa : Addr) (h : Heap), (K w.params).In h → h.Ns mainGlobals mg → mg d.name = some (.ref fa) →
      ∃ fd : FuncData, (∀ (s : Shared) (u : Value), BindsTo s fd ⟨[u], []⟩ [("_law_script", u)]) ∧ ∀ base : Heap, (K w.params).In base → base.Ns mainGlobals mg → FnOk l.prog w (K w.params) mg base CX0 19 fa fd ["_law_script"] (spLaw (K w.params))) :
    PySem.W.WalkO q loose XP YP l.row.toRowW d [] (fun f vs => PySem.call f vs) :=
  L2.walk_of (n := 63) (k := 19) (x := "_law_script") (CX := fun _ => CX0) (sp := fun w => spLaw (K w.params)) hn (by decide) hdf ⟨rfl, by decide, by decide⟩ hY F (fun _ _ a ns hl _ hS => ⟨a, ns, rfl, hS, hl, fun _ => rfl⟩) fun _ _ _ _ _ z => z
end SH
open PySem PySem.W PyProof.Rows
set_option maxRecDepth 100000 in
set_option maxHeartbeats 0 in
theorem PySem.Challenge.cw_stealhall_k06_whole_brackets_wanted_holds : PySem.Challenge.rw_stealhall_k06_whole_brackets_wanted.Holds := by
  w_on; o_law; k_head; (case hw => w_witness2)
  k_fill
  refine SH.walk (l := PySem.Challenge.rw_stealhall_k06_whole_brackets_wanted) rfl rfl (fun w h Y => PySem.W.kIn_of Y) ?F
  case F =>
    intro w mg fa h KX G hmg
    refine' SH.all_mk KX G hmg ?a0 ?l0 ?c0 ?k0 ?a1 ?l1 ?c1 ?k1 ?a2 ?l2 ?c2 ?k2 ?a3 ?l3 ?c3 ?k3 ?a4 ?l4 ?c4 ?k4 ?a5 ?l5 ?c5 ?k5 ?a6 ?l6 ?c6 ?k6 ?a7 ?l7 ?c7 ?k7 ?a8 ?l8 ?c8 ?k8 ?a9 ?l9 ?c9 ?k9 ?a10 ?l10 ?c10 ?k10 ?a11 ?l11 ?c11 ?k11 ?a12 ?l12 ?c12 ?k12 ?a13 ?l13 ?c13 ?k13 ?a14 ?l14 ?c14 ?k14 ?a15 ?l15 ?c15 ?k15 ?a16 ?l16 ?c16 ?k16 ?a17 ?l17 ?c17 ?k17 ?a18 ?l18 ?c18 ?k18 ?a19 ?l19 ?c19 ?k19 ?a20 ?l20 ?c20 ?k20 ?z_len ?z_abs ?z_int ?z_str ?z_range ?z_max ?z_min ?z_isinstance ?z_all ?z_enumerate ?gB ?gC ?gL ?lB0 ?kB0 ?low0 ?n1 ?n2 ?n3 ?n4 ?n5 ?n6 ?n7
    (case a0 => k_is)
    (case l0 => k_is)
    (case c0 => k_is)
    (case k0 => k_is)
    (case a1 => k_is)
    (case l1 => k_is)
    (case c1 => k_is)
    (case k1 => k_is)
    (case a2 => k_is)
    (case l2 => k_is)
    (case c2 => k_is)
    (case k2 => k_is)
    (case a3 => k_is)
    (case l3 => k_is)
    (case c3 => k_is)
    (case k3 => k_is)
    (case a4 => k_is)
    (case l4 => k_is)
    (case c4 => k_is)
    (case k4 => k_is)
    (case a5 => k_is)
    (case l5 => k_is)
    (case c5 => k_is)
    (case k5 => k_is)
    (case a6 => k_is)
    (case l6 => k_is)
    (case c6 => k_is)
    (case k6 => k_is)
    (case a7 => k_is)
    (case l7 => k_is)
    (case c7 => k_is)
    (case k7 => k_is)
    (case a8 => k_is)
    (case l8 => k_is)
    (case c8 => k_is)
    (case k8 => k_is)
    (case a9 => k_is)
    (case l9 => k_is)
    (case c9 => k_is)
    (case k9 => k_is)
    (case a10 => k_is)
    (case l10 => k_is)
    (case c10 => k_is)
    (case k10 => k_is)
    (case a11 => k_is)
    (case l11 => k_is)
    (case c11 => k_is)
    (case k11 => k_is)
    (case a12 => k_is)
    (case l12 => k_is)
    (case c12 => k_is)
    (case k12 => k_is)
    (case a13 => k_is)
    (case l13 => k_is)
    (case c13 => k_is)
    (case k13 => k_is)
    (case a14 => k_is)
    (case l14 => k_is)
    (case c14 => k_is)
    (case k14 => k_is)
    (case a15 => k_is)
    (case l15 => k_is)
    (case c15 => k_is)
    (case k15 => k_is)
    (case a16 => k_is)
    (case l16 => k_is)
    (case c16 => k_is)
    (case k16 => k_is)
    (case a17 => k_is)
    (case l17 => k_is)
    (case c17 => k_is)
    (case k17 => k_is)
    (case a18 => k_is)
    (case l18 => k_is)
    (case c18 => k_is)
    (case k18 => k_is)
    (case a19 => k_is)
    (case l19 => k_is)
    (case c19 => k_is)
    (case k19 => k_is)
    (case a20 => k_is)
    (case l20 => k_is)
    (case c20 => k_is)
    (case k20 => k_is)
    (case z_len => k_is)
    (case z_abs => k_is)
    (case z_int => k_is)
    (case z_str => k_is)
    (case z_range => k_is)
    (case z_max => k_is)
    (case z_min => k_is)
    (case z_isinstance => k_is)
    (case z_all => k_is)
    (case z_enumerate => k_is)
    (case gB => k_is)
    (case gC => k_is)
    (case gL => k_is)
    (case lB0 => k_is)
    (case kB0 => (repeat (first | exact trivial | refine ⟨⟨_, _, rfl, rfl⟩, ?_⟩)))
    (case low0 => (first | rfl | decide | k_is))
    (case n1 => k_is)
    (case n2 => k_is)
    (case n3 => k_is)
    (case n4 => k_is)
    (case n5 => k_is)
    (case n6 => k_is)
    (case n7 => k_is)
