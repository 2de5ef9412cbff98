import PyProof.Rows.All
import Wide.All
import OpenK.AllK
import Wide.FinOn
import HandS.ForMost
import HandS.More
import HandS.FStr
import HandS.IsInst
import HandS.Codes
import HandS.Walk
import HandS.RaiseMore
import HandS.Defaults
import HandS.Strs
import HandS.SetBool
import HandS.SetKeys
import HandS.DictComp
import KE.KCallOwn
import HandS.OwnEq
import PyProof.ReprRoads
import HandS.ForExc
import HandS.ExcInit
import HandS.ExcSuper
import KE.KExcSuper
import KE.KExcLine
import KE.KExcIs
import HandS.HotCalls
import HandS.ExcField
import HandS.Wide
import HandS.TupAny
import HandS.DictSub
import PyProof.StrLawsRepr
import PyProof.FitsInt
import KE.SortData
import HandS.Zip
import HandS.NoneIn
import HandS.Deep
import KE.KDictZip
import KE.GoesMore
import HandS.BoundDict
import HandS.Comp
import HandS.Exc
import HandS.ExcOwn
import HandS.MakeKwOnly
import HandS.Star
import PyProof.ListNew
import HandS.ExcValue
import HandS.Conv
import KE.KStateDown
import HandS.HeadHook1
import HandS.HeadHook2
import HandS.Head0
import HandS.Head1
import HandS.Head2
import PySem.Challenge.RW_stealhall_k15_numbers_reckoned
set_option Elab.async false
set_option linter.all false
set_option maxRecDepth 100000
/-! Expressions: what they are, their text, how they lie in the heap. -/
namespace SH
open PySem L2
inductive Sg where
  | add | sub | mul | lt | eq
def Sg.txt : Sg → Str
  | .add => "+"
  | .sub => "-"
  | .mul => "*"
  | .lt => "<"
  | .eq => "=="
def Sg.lv : Sg → Int
  | .add => 2
  | .sub => 2
  | .mul => 3
  | .lt => 1
  | .eq => 1
inductive Ex where
  | num (n : Int)
  | nam (s : Str)
  | op (g : Sg) (l r : Ex)
def Ex.lv : Ex → Int
  | .num _ => 4
  | .nam _ => 4
  | .op g _ _ => g.lv
def Ex.lw : Ex → Int
  | .num _ => 9
  | .nam _ => 9
  | .op g _ _ => g.lv
def br (b : Bool) (t : Str) : Str := if b = true then ("(" : Str) ++ t ++ (")" : Str) else t
def lB (g : Sg) (l : Ex) : Bool := decide (l.lv < g.lv) || decide (l.lv = 1)
def rB (g : Sg) (r : Ex) : Bool := decide (r.lv ≤ g.lv)
def Ex.txt : Ex → Str
  | .num n => (toString n : String)
  | .nam s => s
  | .op g l r => br (lB g l) l.txt ++ (" " : Str) ++ g.txt ++ (" " : Str) ++ br (rB g r) r.txt
/-- at most n deep, its parts within bounds -/
def Ex.ok : Nat → Ex → Prop
  | 0, _ => False
  | _ + 1, .num n => n.natAbs.log2 < 1920
  | _ + 1, .nam s => s.length ≤ 2000
  | n + 1, .op _ l r => Ex.ok n l ∧ Ex.ok n r
def lenB : Nat → Nat
  | 0 => 2000
  | n + 1 => 2 * lenB n + 2000
theorem app_len (a b : Str) : (a ++ b).length = a.length + b.length := by
  show (a.cps ++ b.cps).size = _
  rw [Array.size_append]
  all_goals rfl
theorem emp_app (a : Str) : Str.empty ++ a = a := by
  show (⟨#[] ++ a.cps⟩ : Str) = a
  rw [Array.empty_append]
theorem Sg.len (g : Sg) : g.txt.length ≤ 2 := by cases g <;> decide +kernel
theorem br_len (b : Bool) (t : Str) : (br b t).length ≤ t.length + 2 := by
  unfold br
  split
  · rw [app_len, app_len]
    have h1 : ("(" : Str).length = 1 := by decide +kernel
    have h2 : (")" : Str).length = 1 := by decide +kernel
    omega
  · omega
theorem Ex.len : ∀ (n : Nat) (e : Ex), Ex.ok n e → e.txt.length ≤ lenB n
  | 0, _, h => h.elim
  | n + 1, .num i, h => by
    have q := PyProof.Rows.int_text_len_1921 (i := i) h
    show (PySem.Str.ofString (toString i)).length ≤ 2 * lenB n + 2000
    omega
  | n + 1, .nam s, h => by
    show s.length ≤ 2 * lenB n + 2000
    have : s.length ≤ 2000 := h
    omega
  | n + 1, .op g l r, h => by
    have h1 := Ex.len n l h.1
    have h2 := Ex.len n r h.2
    have q1 := br_len (lB g l) l.txt
    have q2 := br_len (rB g r) r.txt
    have q3 := g.len
    have hb : (" " : Str).length = 1 := by decide +kernel
    show (br (lB g l) l.txt ++ (" " : Str) ++ g.txt ++ (" " : Str) ++ br (rB g r) r.txt).length ≤ 2 * lenB n + 2000
    rw [app_len, app_len, app_len, app_len]
    omega
theorem Ex.ok_up : ∀ {n m : Nat} {e : Ex}, n ≤ m → Ex.ok n e → Ex.ok m e
  | 0, _, _, _, h => h.elim
  | n + 1, m + 1, .num _, _, h => h
  | n + 1, m + 1, .nam _, _, h => h
  | n + 1, m + 1, .op _ _ _, hm, h => ⟨Ex.ok_up (by omega) h.1, Ex.ok_up (by omega) h.2⟩
/-- what lies at v is the expression -/
def TrIn (H : Hp) : Ex → V → Prop
  | .num n, v => ∃ a, v = .ref a ∧ H a = some (.tup [.str "number", .int n])
  | .nam s, v => ∃ a, v = .ref a ∧ H a = some (.tup [.str "name", .str s])
  | .op g l r, v => ∃ a x y, v = .ref a ∧ H a = some (.tup [.str g.txt, x, y]) ∧ TrIn H l x ∧ TrIn H r y
/-- all but what stands at b stays -/
def But (b : Addr) (H H' : Hp) : Prop := ∀ a o, a ≠ b → H a = some o → H' a = some o
theorem But.of {b : Addr} {H H' : Hp} (h : Same H H') : But b H H' := fun a o _ e => h a o e
theorem But.trans {b : Addr} {H H1 H2 : Hp} (h : But b H H1) (k : But b H1 H2) : But b H H2 := fun a o n e => k a o n (h a o n e)
theorem TrIn.same {H H' : Hp} (h : Same H H') : ∀ {e : Ex} {v : V}, TrIn H e v → TrIn H' e v
  | .num n, v, ⟨a, e, k⟩ => ⟨a, e, h _ _ k⟩
  | .nam n, v, ⟨a, e, k⟩ => ⟨a, e, h _ _ k⟩
  | .op g l r, v, ⟨a, x, y, e, k, p, q⟩ => ⟨a, x, y, e, h _ _ k, TrIn.same h p, TrIn.same h q⟩
theorem lst_ne {H : Hp} {a b : Addr} {xs ys : List V} (h : H a = some (.tup xs)) (k : H b = some (.lst ys)) : a ≠ b := fun e => by
  rw [e, k] at h
  cases h
theorem TrIn.but {H H' : Hp} {b : Addr} {ys : List V} (hb : H b = some (.lst ys)) (h : But b H H') : ∀ {e : Ex} {v : V}, TrIn H e v → TrIn H' e v
  | .num n, v, ⟨a, e, k⟩ => ⟨a, e, h _ _ (lst_ne k hb) k⟩
  | .nam n, v, ⟨a, e, k⟩ => ⟨a, e, h _ _ (lst_ne k hb) k⟩
  | .op g l r, v, ⟨a, x, y, e, k, p, q⟩ => ⟨a, x, y, e, h _ _ (lst_ne k hb) k, TrIn.but hb h p, TrIn.but hb h q⟩
theorem same_new {H : Hp} {p : Addr} (h : H p = none) (o : HO) : Same H (upd H p o) := fun b u q => by
  rw [upd_ne (ne_of_none q h)]
  exact q
def Ex.head : Ex → Str
  | .num _ => "number"
  | .nam _ => "name"
  | .op g _ _ => g.txt
theorem TrIn.tup {H : Hp} : ∀ {e : Ex} {v : V}, TrIn H e v → ∃ a xs, v = .ref a ∧ H a = some (.tup xs) ∧ xs[0]? = some (.str e.head)
  | .num n, v, ⟨a, e, k⟩ => ⟨a, _, e, k, rfl⟩
  | .nam n, v, ⟨a, e, k⟩ => ⟨a, _, e, k, rfl⟩
  | .op g l r, v, ⟨a, x, y, e, k, p, q⟩ => ⟨a, _, e, k, rfl⟩
theorem Sg.ne_number (g : Sg) : g.txt ≠ ("number" : Str) := by cases g <;> decide +kernel
theorem Sg.ne_name (g : Sg) : g.txt ≠ ("name" : Str) := by cases g <;> decide +kernel
/-! ### d.get(k, x) of a dict of the module, keys texts -/
section
variable {X : Cx} {o e f : Expr} {apos cpos : Pos} {td ty tx : TE}
def KGet (K : PySem.W.Frag) (w : World) (a : Addr) (x : Str) (r : Option V) : Prop :=
  ∃ es n ou, K.lookup a = some ⟨.type "dict", none, .dict es n, #[]⟩ ∧ PySem.W.KeysLit w.params es.toList ∧ (a == sysModules) = false ∧ PySem.W.nsIn K a x = some ou ∧
    ((∃ v u, r = some v ∧ ou = some u ∧ RelV v u) ∨ (r = none ∧ ou = none))
def tKGet2 (K : PySem.W.Frag) (w : World) (td ty tx : TE) : TE := fun σ H Q => td σ H fun x H1 => ∃ a es n, x = .ref a ∧ K.lookup a = some ⟨.type "dict", none, .dict es n, #[]⟩ ∧ PySem.W.KeysLit w.params es.toList ∧
  ty σ H1 fun y H2 => tx σ H2 fun z H3 => ∃ k r, y = .str k ∧ KGet K w a k r ∧ Q (r.getD z) H3
theorem pe_kget2 (ho : PE X o td) (he : PE X e ty) (hf : PE X f tx) (m : M2 X o "get" apos e f cpos) : PE X (.Call (.Attribute o "get" apos) [e, f] [] cpos) (tKGet2 X.K X.w td ty tx) := by
  refine ⟨fun pins s σ H Q I h => ?_⟩
  refine wpAny_Call_method m.base m.few m.line PySem.F.plainAttrs_dict PySem.F.slot_dict_get PySem.F.type_dict_get (thn (ho.run pins s σ H _ I h) fun u s1 ⟨x, H1, I1, rx, a, es, n, ex, hl, hk, q1⟩ => ?_)
  subst ex
  obtain rfl : u = Value.ref a := rx
  have hm := PySem.W.mapOf_K (prog := X.prog) (w := X.w) I1.kIn hl hk
  refine ⟨hm.typeIs, fun b q => ?_, ?_⟩
  · cases q
    exact ⟨_, I1.kIn _ _ hl, rfl⟩
  rw [m.trees]
  refine Calls.callWith_builtin rfl (Calls.evalArgs_plain (Calls.spliced_cons (thn (he.run pins s1 σ H1 _ I1 q1) fun iv s2 ⟨y, H2, I2, ry, q2⟩ =>
    Calls.spliced_cons (thn (hf.run pins s2 σ H2 _ I2 q2) fun fv s3 ⟨z, H3, I3, rz, k, r, ey, g, q3⟩ => Calls.spliced_nil ?_))))
  subst ey
  obtain ⟨t, rfl⟩ := (show ∃ t, iv = Value.str k t from ry)
  obtain ⟨es', n', ou, hl', hk', low, hn, hr⟩ := g
  have hm3 := PySem.W.mapOf_K (prog := X.prog) (w := X.w) I3.kIn hl' hk'
  refine call_meetsIn PySem.F.slot_dict_get hm3.typeIs PySem.F.entry_dict_get (PySem.F.args_dict_get_3 _ _ _) (meets_dict_get_default (strKind X.prog X.w) a (strKind_is X.prog X.w k t) low fv) ⟨_, hm3, ?_⟩
  rw [PySem.W.find_K hl' hn]
  rcases hr with ⟨v, u, rfl, rfl, rv⟩ | ⟨rfl, rfl⟩
  · exact ⟨v, H3, I3.tok _, rv, q3⟩
  · exact ⟨z, H3, I3.tok _, rz, q3⟩
end
/-! ### rules within a comprehension: the written part by its name -/
section
variable {X : Cx}
theorem ix_tupK (K : PySem.W.Frag) (h : X.K = K := by rfl) : IxR X (rIxT K) := h ▸ ix_tup
theorem ix_listK (K : PySem.W.Frag) (h : X.K = K := by rfl) : IxR X (rIxL K) := h ▸ ix_list
theorem call_len_seqK (K : PySem.W.Frag) (h : X.K = K := by rfl) : CallR X (.builtin "len") (fun xs H Q => ∃ p ys, xs = [V.ref p] ∧ (SqL K H p ys ∨ SqT K H p ys) ∧ Q (.int (ys.length : Nat)) H) := h ▸ call_len_seq
theorem op_in_seqK (K : PySem.W.Frag) (h : X.K = K := by rfl) : OpR X (compareOp .In) (rIn K false) := h ▸ op_in_seq
theorem op_notIn_seqK (K : PySem.W.Frag) (h : X.K = K := by rfl) : OpR X (compareOp .NotIn) (rIn K true) := h ▸ op_notIn_seq
end
end SH

set_option Elab.async false
set_option linter.all false
set_option maxRecDepth 100000
namespace SH
open PySem L2
def topS (i : Nat) : Stmt := PySem.Challenge.pw_stealhall_k15_numbers_reckoned.main.body.getD i (.Pass ⟨0, 0, 0, 0⟩)
end SH

set_option Elab.async false
set_option linter.all false
set_option maxRecDepth 100000
namespace SH
open PySem L2
abbrev sBag : Stmt := topS 106
abbrev sTake : Stmt := topS 107
theorem scBag : FnScope ["_law_script", "_law_k", "_law_cell"] ["_law_script", "_law_k"] (defScope sBag) := ⟨rfl, rfl, rfl, by decide +kernel, rfl, by decide +kernel, by decide +kernel⟩
theorem scTake : FnScope ["_law_bag_here", "_law_many", "_law_digit", "_law_primes", "_law_step", "_law_base", "_law_found", "_law_prime"] ["_law_bag_here", "_law_many"] (defScope sTake) := ⟨rfl, rfl, rfl, by decide +kernel, rfl, by decide +kernel, by decide +kernel⟩
/-- the names of the built-ins are free -/
structure Bi (mg : Str → Option Value) : Prop where
  len : mg "len" = none
  abs : mg "abs" = none
  int : mg "int" = none
  str : mg "str" = none
  range : mg "range" = none
  max : mg "max" = none
  min : mg "min" = none
  isinstance : mg "isinstance" = none
  all : mg "all" = none
/-- a def that can be called -/
structure Fk (P : Program) (w : World) (K : PySem.W.Frag) (mg : Str → Option Value) (base : Heap) (lv : Nat) (x : Str) (f : Addr) (fd : FuncData) (ps : List Str) (sp : Sp) : Prop where
  G : FnOk P w K mg base CX0 lv f fd ps sp
  m : mg x = some (.ref f)
  k : PySem.W.keepIn K (.ref f) = true
  b : Binds K fd ps []
/-- a bag from which n can be taken -/
def Bag (H : Hp) (b : Addr) (n : Nat) : Prop := ∃ x y z : Int, H b = some (.lst [.int x, .int y, .int z]) ∧ 0 ≤ x ∧ 0 ≤ y ∧ y ≤ 4294967296 ∧ 0 ≤ z ∧ z + n ≤ 16777216
theorem Bag.less {H : Hp} {b : Addr} {n m : Nat} (h : Bag H b n) (hm : m ≤ n) : Bag H b m := by
  obtain ⟨x, y, z, e, h1, h2, h3, h4, h5⟩ := h
  exact ⟨x, y, z, e, h1, h2, h3, h4, by omega⟩
theorem Bag.same {H H' : Hp} {b : Addr} {n : Nat} (h : Bag H b n) (s : Same H H') : Bag H' b n := by
  obtain ⟨x, y, z, e, r⟩ := h
  exact ⟨x, y, z, s _ _ e, r⟩
theorem Bag.lst {H : Hp} {b : Addr} {n : Nat} (h : Bag H b n) : ∃ ys, H b = some (.lst ys) := by
  obtain ⟨x, y, z, e, _⟩ := h
  exact ⟨_, e⟩
def spBag (K : PySem.W.Frag) : Sp := fun vs H Q _ => ∃ (a : Addr) (ns : List Int) (k : Int), vs = [.ref a, .int k] ∧ SqL K H a (ns.map V.int) ∧ 0 ≤ k ∧ k ≤ 63 ∧
  ∀ b H', Same H H' → H b = none → Bag H' b 16000000 → Q (.ref b) H'
def spTake : Sp := fun vs H Q _ => ∃ (b : Addr) (m : Int) (n : Nat), vs = [.ref b, .int m] ∧ 0 < m ∧ m < 1073741824 ∧ Bag H b (n + 1) ∧
  ∀ (d : Int) (H' : Hp), 0 ≤ d → d < m → Bag H' b n → But b H H' → Q (.int d) H'
theorem bit01 (b : Bool) : -(2 ^ 64) < (if b = true then (1 : Int) else 0) ∧ (if b = true then (1 : Int) else 0) < 2 ^ 64 := by cases b <;> decide
theorem bit0 (b : Bool) : 0 ≤ (if b = true then (1 : Int) else 0) := by cases b <;> decide
section
variable {P : Program} {w : World} {K : PySem.W.Frag} {mg : Str → Option Value} {base : Heap}
theorem ok_bag {f : Addr} {fd : FuncData} (F : Fun K "_law_bag" "_law_bag" sBag f fd) (T : Bi mg) : FnOk P w K mg base CX0 1 f fd ["_law_script", "_law_k"] (spBag K) := by
  refine F.ok scBag (fun vs H Q E h => ?_) (fun cdv A outer s H vs Q E hr h => ?_)
  · obtain ⟨a, ns, k, rfl, _⟩ := h
    rfl
  obtain ⟨a, ns, k, rfl, hS, h0, h1, q⟩ := h
  refine ⟨_, (pss_cons (ps_set (i := 2) scBag.nd rfl (Or.inl rfl) (pe_op op_add (pe_op op_mul pe_int (pv 1)) pe_int))
    (C8.pss_cut (ps_if (pt_cmpR op_lt (pv 1) (pe_callB call_len_seq (by rfl) T.len (by decide +kernel) (pa_cons (pv 0) pa_nil)) (nomark _))
      (pss_one (ps_set (i := 2) scBag.nd rfl (Or.inl rfl) (pe_ix ix_list (pv 0) (pv 1) (fun _ _ => rfl))))
      pss_nil)
    (pss_one (ps_ret (pe_lst (pa_cons (pe_op op_mul (pe_callB call_abs (by rfl) T.abs (by decide +kernel) (pa_cons (pv 2) pa_nil)) (pe_callTy call_int1 (by rfl) T.int (by decide +kernel) (pa_cons (pe_cmpR op_ge (pe_callB call_abs (by rfl) T.abs (by decide +kernel) (pa_cons (pv 2) pa_nil)) (pe_op op_pow pe_int pe_int) (nomark _)) pa_nil))) (pa_cons (pe_op op_add (pe_op op_mod (pv 2) pe_int) (pe_op op_mul pe_int (pv 1))) (pa_cons pe_int pa_nil)))))))), ?_⟩
  have hl : (ns.map V.int).length = ns.length := List.length_map _
  refine ⟨_, rfl, _, _, rfl, rfl, .inl ⟨by decide, by decide⟩, _, _, rfl, rfl, ?_⟩
  refine ⟨fun σ' H' => ∃ c : Int, σ' = [some (.ref a), some (.int k), some (.int c)] ∧ H' = H, ?_, ?_⟩
  · refine ⟨_, rfl, _, rfl, a, _, rfl, .inl hS, _, _, rfl, rfl, _, rfl, ?_⟩
    refine ite2 (fun c => ?_) (fun c => ?_)
    · have c' := of_decide_eq_true c
      rw [hl] at c'
      have hk : k.toNat < ns.length := by omega
      refine ⟨_, rfl, _, rfl, a, _, k, .int ns[k.toNat], rfl, rfl, hS, ?_, ?_⟩
      · have q : atI (ns.map V.int) ((k.toNat : Nat) : Int) = some (.int ns[k.toNat]) := atI_nat (by rw [List.getElem?_map, List.getElem?_eq_getElem hk] <;> rfl)
        rwa [show ((k.toNat : Nat) : Int) = k by omega] at q
      · exact ⟨_, rfl, rfl⟩
    · exact ⟨_, rfl, rfl⟩
  · rintro σ' H' ⟨c, rfl, rfl⟩
    refine ⟨_, rfl, _, rfl, _, rfl, _, rfl, _, _, rfl, rfl, ⟨by decide, by decide, by decide⟩, _, _, rfl, rfl, .inr ⟨_, rfl, ?_⟩⟩
    refine ⟨_, _, rfl, rfl, .inr ?_, ?_⟩
    · exact bit01 _
    refine ⟨_, rfl, _, _, rfl, rfl, (by show (0 : Int) < 2147483647; decide), _, rfl, _, _, rfl, rfl, .inl ⟨by decide, by decide⟩, _, _, rfl, rfl, ?_⟩
    refine ⟨by show 3 ≤ sizeLine; decide, fun b hb => ?_⟩
    refine q b _ (same_new hb _) hb ⟨_, _, _, upd_same, ?_, ?_, ?_, Int.le_refl 0, by decide⟩
    · show 0 ≤ (if c < 0 then -c else c) * (if decide ((10 : Int) ^ 18 ≤ (if c < 0 then -c else c)) = true then (1 : Int) else 0)
      refine Int.mul_nonneg ?_ ?_
      · split <;> omega
      · exact bit0 _
    · have := Int.emod_nonneg c (show (2147483647 : Int) ≠ 0 by decide)
      show 0 ≤ c % 2147483647 + 37 * k
      omega
    · have := Int.emod_lt_of_pos c (show (0 : Int) < 2147483647 by decide)
      show c % 2147483647 + 37 * k ≤ 4294967296
      omega
theorem pow3 {a : Int} (h0 : 0 ≤ a) (h : a < 4611686018427387904) : CPow a 3 := ⟨by decide, by decide, by omega⟩
def primes : List Int := [2147483647, 2147483629, 2147483587, 2147483579, 2147483563, 2147483549, 2147483543, 2147483497, 2147483489, 2147483477, 2147483423, 2147483399]
theorem primes_at {z : Int} : ∃ p : Int, atI (primes.map V.int) (z % 12) = some (.int p) ∧ 0 < p ∧ p < 2147483648 := by
  have h0 := Int.emod_nonneg z (show (12 : Int) ≠ 0 by decide)
  have h1 := Int.emod_lt_of_pos z (show (0 : Int) < 12 by decide)
  have hk : (z % 12).toNat < primes.length := by show (z % 12).toNat < 12; omega
  have q : atI (primes.map V.int) (((z % 12).toNat : Nat) : Int) = some (.int primes[(z % 12).toNat]) := atI_nat (by rw [List.getElem?_map, List.getElem?_eq_getElem hk] <;> rfl)
  rw [show (((z % 12).toNat : Nat) : Int) = z % 12 by omega] at q
  have all : ∀ p ∈ primes, 0 < p ∧ p < 2147483648 := by decide
  exact ⟨_, q, all _ (List.getElem_mem hk)⟩
theorem base_le {y z : Int} (h2 : 0 ≤ y) (h3 : y ≤ 4294967296) (h4 : 0 ≤ z) (h5 : z ≤ 16777217) : 0 ≤ y * (2 * z + 1) + 7919 * z * z + 29 ∧ y * (2 * z + 1) + 7919 * z * z + 29 < 4611686018427387904 := by
  have a1 : y * (2 * z + 1) ≤ 4294967296 * 67108864 := Int.mul_le_mul h3 (by omega) (by omega) (by omega)
  have a2 : 0 ≤ y * (2 * z + 1) := Int.mul_nonneg h2 (by omega)
  have b1 : 7919 * z * z ≤ 132858781423 * 16777217 := Int.mul_le_mul (by omega) h5 h4 (by omega)
  have b2 : 0 ≤ 7919 * z * z := Int.mul_nonneg (by omega) h4
  omega
theorem ok_take {f : Addr} {fd : FuncData} (F : Fun K "_law_take" "_law_take" sTake f fd) : FnOk P w K mg base CX0 1 f fd ["_law_bag_here", "_law_many"] spTake := by
  refine F.ok scTake (fun vs H Q E h => ?_) (fun cdv A outer s H vs Q E hr h => ?_)
  · obtain ⟨b, m, n, rfl, _⟩ := h
    rfl
  obtain ⟨b, m, n, rfl, hm0, hm1, ⟨x, y, z, hb, hx, hy, hy1, hz, hz1⟩, q⟩ := h
  refine ⟨_, (pss_cons (ps_if (pt_cmpR op_gt (pe_ix ix_list (pv 0) pe_int (fun _ _ => rfl)) pe_int (nomark _))
      (pss_cons (ps_set (i := 2) scTake.nd rfl (Or.inl rfl) (pe_op op_mod (pe_ix ix_list (pv 0) pe_int (fun _ _ => rfl)) (pv 1)))
    (pss_cons (ps_asg (pe_op op_fdiv (pe_ix ix_list (pv 0) pe_int (fun _ _ => rfl)) (pv 1)) (pg_sub (pv 0) pe_int set_list))
    (pss_one (ps_ret (pv 2)))))
      pss_nil)
    (pss_cons (ps_set (i := 3) scTake.nd rfl (Or.inl rfl) (pe_tup (pa_cons pe_int (pa_cons pe_int (pa_cons pe_int (pa_cons pe_int (pa_cons pe_int (pa_cons pe_int (pa_cons pe_int (pa_cons pe_int (pa_cons pe_int (pa_cons pe_int (pa_cons pe_int (pa_cons pe_int pa_nil))))))))))))))
    (pss_cons (ps_asg (pe_op op_add (pe_ix ix_list (pv 0) pe_int (fun _ _ => rfl)) pe_int) (pg_sub (pv 0) pe_int set_list))
    (pss_cons (ps_set (i := 4) scTake.nd rfl (Or.inl rfl) (pe_ix ix_list (pv 0) pe_int (fun _ _ => rfl)))
    (pss_cons (ps_set (i := 5) scTake.nd rfl (Or.inl rfl) (pe_op op_add (pe_op op_add (pe_op op_mul (pe_ix ix_list (pv 0) pe_int (fun _ _ => rfl)) (pe_op op_add (pe_op op_mul pe_int (pv 4)) pe_int)) (pe_op op_mul (pe_op op_mul pe_int (pv 4)) (pv 4))) pe_int))
    (pss_cons (ps_set (i := 6) scTake.nd rfl (Or.inl rfl) (pe_op op_mod (pe_op op_pow (pv 5) pe_int) (pe_ix ix_tup (pv 3) (pe_op op_mod (pv 4) pe_int) (fun _ _ => rfl))))
    (pss_cons (ps_set (i := 7) scTake.nd rfl (Or.inl rfl) (pe_ix ix_tup (pv 3) (pe_op op_mod (pe_op op_add (pv 4) pe_int) pe_int) (fun _ _ => rfl)))
    (pss_one (ps_ret (pe_op op_mod (pe_op op_fdiv (pe_op op_mod (pe_op op_mul (pv 6) (pe_op op_add (pe_op op_fdiv (pv 6) pe_int) pe_int)) (pv 7)) pe_int) (pv 1))))))))))), ?_⟩
  have i0 : ∀ {u v t : V}, atI [u, v, t] 0 = some u := fun {u v t} => atI_nat (j := 0) rfl
  have i1 : ∀ {u v t : V}, atI [u, v, t] 1 = some v := fun {u v t} => atI_nat (j := 1) rfl
  have i2 : ∀ {u v t : V}, atI [u, v, t] 2 = some t := fun {u v t} => atI_nat (j := 2) rfl
  refine ⟨_, rfl, b, _, 0, _, rfl, rfl, SqL.of hb, i0, _, _, rfl, rfl, _, rfl, ?_⟩
  refine ite2 (fun c => ?_) (fun c => ?_)
  · refine ⟨_, rfl, b, _, 0, _, rfl, rfl, SqL.of hb, i0, _, rfl, _, _, rfl, rfl, hm0, ?_⟩
    refine ⟨_, rfl, b, _, 0, _, rfl, rfl, SqL.of hb, i0, _, rfl, _, _, rfl, rfl, ⟨hm0, hm1⟩, ?_⟩
    refine ⟨_, rfl, b, _, 0, 0, rfl, rfl, hb, rfl, ?_⟩
    refine ⟨_, rfl, ?_⟩
    refine q _ _ (Int.emod_nonneg x (by omega)) (Int.emod_lt_of_pos x hm0) ⟨_, y, z, upd_same, Int.ediv_nonneg hx (by omega), hy, hy1, hz, by omega⟩ fun a o na e => ?_
    rw [upd_ne na]
    exact e
  · refine ⟨by show 12 ≤ sizeLine; decide, fun t ht => ?_⟩
    have nt : b ≠ t := ne_of_none hb ht
    have hb1 : (upd H t (.tup (primes.map V.int))) b = some (.lst [.int x, .int y, .int z]) := by rw [upd_ne nt]; exact hb
    refine ⟨_, rfl, b, _, 2, _, rfl, rfl, SqL.of hb1, i2, _, _, rfl, rfl, ?_⟩
    refine ⟨_, rfl, b, _, 2, 2, rfl, rfl, hb1, rfl, ?_⟩
    have hb2 : (upd (upd H t (.tup (primes.map V.int))) b (.lst [.int x, .int y, .int (z + 1)])) b = some (.lst [.int x, .int y, .int (z + 1)]) := upd_same
    have ht2 : (upd (upd H t (.tup (primes.map V.int))) b (.lst [.int x, .int y, .int (z + 1)])) t = some (.tup (primes.map V.int)) := by rw [upd_ne (Ne.symm nt), upd_same]
    refine ⟨_, rfl, b, _, 2, _, rfl, rfl, SqL.of hb2, i2, ?_⟩
    obtain ⟨c0, c1⟩ := base_le (y := y) (z := z + 1) hy hy1 (by omega) (by omega)
    refine ⟨_, rfl, b, _, 1, _, rfl, rfl, SqL.of hb2, i1, _, rfl, _, _, rfl, rfl, .inl ⟨by decide, by decide⟩, _, _, rfl, rfl, _, _, rfl, rfl, .inl ⟨by omega, by omega⟩, ?_⟩
    refine ⟨_, rfl, _, _, rfl, rfl, .inl ⟨by decide, by decide⟩, _, rfl, _, _, rfl, rfl, .inl ⟨by omega, by omega⟩, _, _, rfl, rfl, _, _, rfl, rfl, ?_⟩
    obtain ⟨p1, e1, p1a, p1b⟩ := primes_at (z := z + 1)
    obtain ⟨p2, e2, p2a, p2b⟩ := primes_at (z := z + 1 + 5)
    refine ⟨_, rfl, _, _, rfl, rfl, pow3 c0 c1, _, rfl, _, rfl, _, _, rfl, rfl, (by show (0 : Int) < 12; decide), t, _, _, _, rfl, rfl, SqT.of ht2, e1, _, _, rfl, rfl, p1a, ?_⟩
    refine ⟨_, rfl, _, rfl, _, _, rfl, rfl, _, _, rfl, rfl, (by show (0 : Int) < 12; decide), t, _, _, _, rfl, rfl, SqT.of ht2, e2, ?_⟩
    have f0 := Int.emod_nonneg ((y * (2 * (z + 1) + 1) + 7919 * (z + 1) * (z + 1) + 29) ^ 3) (show p1 ≠ 0 by omega)
    have f1 := Int.emod_lt_of_pos ((y * (2 * (z + 1) + 1) + 7919 * (z + 1) * (z + 1) + 29) ^ 3) p1a
    refine ⟨_, rfl, _, rfl, _, _, rfl, rfl, ⟨by decide, by decide⟩, _, _, rfl, rfl, _, _, rfl, rfl, .inl ⟨Int.lt_of_lt_of_le (by decide) f0, Int.lt_trans f1 (by omega)⟩, _, rfl, _, _, rfl, rfl, p2a, _, _, rfl, rfl, ⟨by decide, by decide⟩, _, rfl, _, _, rfl, rfl, hm0, ?_⟩
    refine q _ _ (Int.emod_nonneg _ (by omega)) (Int.emod_lt_of_pos _ hm0) ⟨x, y, z + 1, hb2, hx, hy, hy1, by omega, by omega⟩ fun a o na e => ?_
    rw [upd_ne na, upd_ne (ne_of_none e ht)]
    exact e
end
end SH

set_option Elab.async false
set_option linter.all false
set_option maxRecDepth 100000
namespace SH
open PySem L2
abbrev sKept : Stmt := topS 108
abbrev sNames : Stmt := topS 109
abbrev sNumber : Stmt := topS 110
theorem scKept : FnScope [] [] (defScope sKept) := ⟨rfl, rfl, rfl, by decide +kernel, rfl, by decide +kernel, by decide +kernel⟩
theorem scNames : FnScope ["_law_bag_here", "_law_many", "_law_letters", "_law_found", "_law_k", "_law_name", "_law_way", "_law_some", "_law_j", "_law_letter", "_law_one"] ["_law_bag_here", "_law_many"] (defScope sNames) := ⟨rfl, rfl, rfl, by decide +kernel, rfl, by decide +kernel, by decide +kernel⟩
theorem scNumber : FnScope ["_law_bag_here", "_law_way", "_law_found", "_law_k"] ["_law_bag_here"] (defScope sNumber) := ⟨rfl, rfl, rfl, by decide +kernel, rfl, by decide +kernel, by decide +kernel⟩
/-! ### mathematics -/
def kept : List Str := ["work", "room", "go", "call", "wait", "if", "else", "end", "give", "fail"]
def letters : Str := "abcdefghijklmnopqrstuvwxyz"
theorem menu {xs : List V} {i : Int} (h0 : 0 ≤ i) (h1 : i < xs.length) : ∃ v, atI xs i = some v ∧ v ∈ xs := by
  have hk : i.toNat < xs.length := by omega
  refine ⟨xs[i.toNat], ?_, List.getElem_mem hk⟩
  have q : atI xs ((i.toNat : Nat) : Int) = some xs[i.toNat] := atI_nat (List.getElem?_eq_getElem hk)
  rwa [show ((i.toNat : Nat) : Int) = i by omega] at q
theorem menuI {ns : List Int} {i : Int} (h0 : 0 ≤ i) (h1 : i < ns.length) : ∃ k, atI (ns.map V.int) i = some (.int k) ∧ k ∈ ns := by
  obtain ⟨v, e, m⟩ := menu (xs := ns.map V.int) h0 (by rw [List.length_map]; exact h1)
  obtain ⟨k, hk, rfl⟩ := List.mem_map.mp m
  exact ⟨k, e, hk⟩
theorem menuS {ns : List Str} {i : Int} (h0 : 0 ≤ i) (h1 : i < ns.length) : ∃ k, atI (ns.map V.str) i = some (.str k) ∧ k ∈ ns := by
  obtain ⟨v, e, m⟩ := menu (xs := ns.map V.str) h0 (by rw [List.length_map]; exact h1)
  obtain ⟨k, hk, rfl⟩ := List.mem_map.mp m
  exact ⟨k, e, hk⟩
theorem log_ok {i : Int} (h0 : 0 ≤ i) (h1 : i < 1000000 ^ 5) : i.natAbs.log2 < 1920 := by
  by_cases z : i.natAbs = 0
  · rw [z]; decide
  · rw [Nat.log2_lt z]
    have : i.natAbs < 2 ^ 100 := by
      have e : (1000000 : Int) ^ 5 = 1000000000000000000000000000000 := by decide
      have e2 : (2 : Nat) ^ 100 = 1267650600228229401496703205376 := by decide
      rw [e] at h1
      rw [e2]
      omega
    exact Nat.lt_trans this (Nat.pow_lt_pow_right (by decide) (by decide))
def codes (s : Str) : List Nat := s.cps.toList
theorem codes_len (s : Str) : (codes s).length = s.length := Array.length_toList
theorem codes_app (a b : Str) : codes (a ++ b) = codes a ++ codes b := by
  show (a.cps ++ b.cps).toList = _
  rw [Array.toList_append]
  all_goals rfl
theorem codes_inj {a b : Str} (h : codes a = codes b) : a = b := by
  cases a with | mk x =>
  cases b with | mk y =>
  have : x = y := Array.toList_inj.mp h
  rw [this]
/-- a text of one to eight letters -/
def nmOk (s : Str) : Prop := 1 ≤ (codes s).length ∧ (codes s).length ≤ 8 ∧ ∀ c ∈ codes s, 97 ≤ c ∧ c ≤ 122
structure NmsOk (l : List Str) : Prop where
  each : ∀ s ∈ l, nmOk s ∧ s ∉ kept
  nd : l.Nodup
theorem NmsOk.snoc {l : List Str} {s : Str} (h : NmsOk l) (a : nmOk s) (b : s ∉ l ++ kept) : NmsOk (l ++ [s]) := by
  refine ⟨fun x hx => ?_, ?_⟩
  · rcases List.mem_append.mp hx with hx | hx
    · exact h.each x hx
    · rw [List.mem_singleton.mp hx]
      exact ⟨a, fun q => b (List.mem_append_right _ q)⟩
  · exact nd_snoc h.nd fun q => b (List.mem_append_left _ q)
theorem join_codes : ∀ l : List Str, codes (PySem.Txt.join (PySem.Str.ofString "") l) = (l.map codes).flatten := by
  have step : ∀ l : List Str, codes (PySem.Str.join (PySem.Str.ofString "") l) = (l.map codes).flatten := by
    intro l
    induction l with
    | nil => rfl
    | cons a r ih =>
      cases r with
      | nil => show codes a = codes a ++ []; rw [List.append_nil]
      | cons b t =>
        show codes (a ++ PySem.Str.ofString "" ++ PySem.Str.join (PySem.Str.ofString "") (b :: t)) = codes a ++ ((b :: t).map codes).flatten
        rw [codes_app, codes_app, ih]
        have z : codes (PySem.Str.ofString "") = [] := by decide +kernel
        rw [z, List.append_nil]
  intro l
  show codes (Builtin.Str.glued (PySem.Str.ofString "") l) = _
  rw [StrLaws.glued_eq_join]
  exact step l
theorem pig : ∀ (xs L : List Str), xs.Nodup → L.length < xs.length → ∃ x ∈ xs, x ∉ L
  | [], L, _, h => absurd h (Nat.not_lt_zero _)
  | x :: r, L, hn, h => by
    obtain ⟨h1, h2⟩ := List.nodup_cons.mp hn
    by_cases hx : x ∈ L
    · have hl := List.length_erase_of_mem hx
      rw [List.length_cons] at h
      obtain ⟨y, hy, hyL⟩ := pig r (L.erase x) h2 (by have := List.length_pos_of_mem hx; omega)
      refine ⟨y, List.mem_cons_of_mem _ hy, fun q => hyL ?_⟩
      refine (List.mem_erase_of_ne ?_).mpr q
      intro e
      rw [e] at hy
      exact h1 hy
    · exact ⟨x, List.mem_cons_self, hx⟩
def one (c : Nat) : Str := ⟨#[c]⟩
theorem codes_one (c : Nat) : codes (one c) = [c] := rfl
/-- the twenty-six of a name: another first letter -/
def some26 (s : Str) : List Str := (codes letters).map fun c => one c ++ cutS s (some 1) none
theorem cut1 (s : Str) : codes (cutS s (some 1) none) = (codes s).drop 1 := by
  unfold cutS
  show (((s.cps.toList.drop (HT.sIx s.length 0 (some 1))).take (HT.sIx s.length s.length none - HT.sIx s.length 0 (some 1))).toArray).toList = _
  rw [List.toList_toArray, show HT.sIx s.length 0 (some 1) = min 1 s.length from HT.sIx_nat s.length 0 1, HT.sIx_none]
  show (List.drop (min 1 s.length) (codes s)).take (s.length - min 1 s.length) = (codes s).drop 1
  rw [← codes_len]
  cases hc : codes s with
  | nil => rfl
  | cons x r =>
    rw [show min 1 (x :: r).length = 1 by rw [List.length_cons]; omega]
    show r.take ((x :: r).length - 1) = r
    rw [List.length_cons, Nat.add_sub_cancel, List.take_length]
theorem cutN {s : Str} {n : Nat} : codes (cutS s none (some (n : Int))) = (codes s).take n := by
  unfold cutS
  show (((s.cps.toList.drop (HT.sIx s.length 0 none)).take (HT.sIx s.length s.length (some (n : Int)) - HT.sIx s.length 0 none)).toArray).toList = _
  rw [List.toList_toArray, HT.sIx_nat, HT.sIx_none]
  show (List.drop 0 (codes s)).take (min n s.length - 0) = (codes s).take n
  rw [List.drop_zero, Nat.sub_zero, ← codes_len]
  by_cases h : n ≤ (codes s).length
  · rw [Nat.min_eq_left h]
  · rw [Nat.min_eq_right (by omega), List.take_length, List.take_of_length_le (by omega)]
theorem some26_nd (s : Str) : (some26 s).Nodup := by
  have base : (codes letters).Nodup := by decide +kernel
  unfold some26
  refine List.Pairwise.map _ ?_ base
  intro a b hab e
  have q := congrArg codes e
  rw [codes_app, codes_app, codes_one, codes_one] at q
  exact hab (List.cons.inj q).1
theorem some26_len (s : Str) : (some26 s).length = 26 := by
  unfold some26
  rw [List.length_map]
  decide +kernel
theorem letters_ok : ∀ c ∈ codes letters, 97 ≤ c ∧ c ≤ 122 := by decide +kernel
theorem kept_ok : ∀ s ∈ kept, ∀ c ∈ codes s, 97 ≤ c ∧ c ≤ 122 := by decide +kernel
theorem kept_pos : ∀ s ∈ kept, 1 ≤ (codes s).length ∧ (codes s).length ≤ 4 := by decide +kernel
theorem some26_ok {s t : Str} (h : nmOk s) (ht : t ∈ some26 s) : nmOk t := by
  unfold some26 at ht
  obtain ⟨c, hc, rfl⟩ := List.mem_map.mp ht
  obtain ⟨h1, h2, h3⟩ := h
  have e : codes (one c ++ cutS s (some 1) none) = c :: (codes s).drop 1 := by rw [codes_app, codes_one, cut1]; rfl
  refine ⟨?_, ?_, ?_⟩
  · rw [e, List.length_cons]; omega
  · rw [e, List.length_cons, List.length_drop]; omega
  · rw [e]
    intro x hx
    rcases List.mem_cons.mp hx with rfl | hx
    · exact letters_ok _ hc
    · exact h3 _ (List.mem_of_mem_drop hx)
theorem inV_str {x : Str} : ∀ {l : List Str}, inV (.str x) (l.map V.str) = decide (x ∈ l)
  | [] => rfl
  | y :: r => by
    show (eqV (.str y) (.str x) || inV (.str x) (r.map V.str)) = _
    rw [inV_str (l := r)]
    show ((y == x) || decide (x ∈ r)) = _
    by_cases e : x = y
    · subst e; simp
    · have e' : (y == x) = false := by simpa using fun h => e h.symm
      rw [e', Bool.false_or]
      simp [e]
theorem flat_strs (l : List Str) : (l.map V.str).all flatV = true := by
  rw [List.all_eq_true]
  intro x hx
  obtain ⟨s, _, rfl⟩ := List.mem_map.mp hx
  rfl
def spKept : Sp := fun vs H Q _ => vs = [] ∧ ∀ p, H p = none → Q (.ref p) (upd H p (.lst (kept.map V.str)))
def spNumber : Sp := fun vs H Q _ => ∃ (b : Addr) (n : Nat), vs = [.ref b] ∧ Bag H b (n + 8) ∧
  ∀ (i : Int) (H' : Hp), 0 ≤ i → i < 1000000 ^ 5 → Bag H' b n → But b H H' → Q (.int i) H'
def spNames : Sp := fun vs H Q _ => ∃ (b : Addr) (m n : Nat), vs = [.ref b, .int m] ∧ m ≤ 12 ∧ Bag H b (n + 16 * m) ∧
  ∀ (p : Addr) (nm : List Str) (H' : Hp), H p = none → H' p = some (.lst (nm.map V.str)) → nm.length = m → NmsOk nm → Bag H' b n → But b H H' → Q (.ref p) H'
section
variable {P : Program} {w : World} {K : PySem.W.Frag} {mg : Str → Option Value} {base : Heap}
theorem ok_kept {f : Addr} {fd : FuncData} (F : Fun K "_law_kept" "_law_kept" sKept f fd) : FnOk P w K mg base CX0 1 f fd [] spKept := by
  refine F.ok scKept (fun vs H Q E h => ?_) (fun cdv A outer s H vs Q E hr h => ?_)
  · obtain ⟨rfl, _⟩ := h
    rfl
  obtain ⟨rfl, q⟩ := h
  refine ⟨_, (pss_one (ps_ret (pe_lst (pa_cons pe_str (pa_cons pe_str (pa_cons pe_str (pa_cons pe_str (pa_cons pe_str (pa_cons pe_str (pa_cons pe_str (pa_cons pe_str (pa_cons pe_str (pa_cons pe_str pa_nil))))))))))))), ?_⟩
  exact ⟨by show 10 ≤ sizeLine; decide, fun p hp => q p hp⟩
theorem But.new {b : Addr} {H : Hp} {p : Addr} (h : H p = none) (o : HO) : But b H (upd H p o) := .of (same_new h o)
theorem ok_number {f t : Addr} {fd td : FuncData} (F : Fun K "_law_number" "_law_number" sNumber f fd) (TK : Fk P w K mg base 1 "_law_take" t td ["_law_bag_here", "_law_many"] spTake) (T : Bi mg) :
    FnOk P w K mg base CX0 2 f fd ["_law_bag_here"] spNumber := by
  refine F.ok scNumber (fun vs H Q E h => ?_) (fun cdv A outer s H vs Q E hr h => ?_)
  · obtain ⟨b, n, rfl, _⟩ := h
    rfl
  obtain ⟨b, n, rfl, hB, q⟩ := h
  refine ⟨_, (pss_cons (ps_set (i := 1) scNumber.nd rfl (Or.inl rfl) (pe_call TK.G (hr.mono (by omega)) (by rfl) TK.m TK.k TK.b .nil pass0 (pa_cons (pv 0) (pa_cons pe_int pa_nil))))
    (pss_cons (ps_if (pt_cmpR op_lt (pv 1) pe_int (nomark _))
      (pss_one (ps_ret (pe_call TK.G (hr.mono (by omega)) (by rfl) TK.m TK.k TK.b .nil pass0 (pa_cons (pv 0) (pa_cons (pe_ix ix_list (pe_lst (pa_cons pe_int (pa_cons pe_int pa_nil))) (pv 1) (fun _ _ => rfl)) pa_nil)))))
      pss_nil)
    (pss_cons (ps_set (i := 2) scNumber.nd rfl (Or.inl rfl) pe_int)
    (pss_cons (ps_for PassesOwn.never rfl (pi_range1 (by rfl) T.range (pa_cons (pe_ix ix_list (pe_lst (pa_cons pe_int (pa_cons pe_int pa_nil))) (pe_op op_sub (pv 1) pe_int) (fun _ _ => rfl)) pa_nil)) (pg_name (i := 3) scNumber.nd rfl (.inl rfl))
      (pss_one (ps_set (i := 2) scNumber.nd rfl (Or.inl rfl) (pe_op op_add (pe_op op_mul (pv 2) (pe_op op_pow pe_int pe_int)) (pe_call TK.G (hr.mono (by omega)) (by rfl) TK.m TK.k TK.b .nil pass0 (pa_cons (pv 0) (pa_cons (pe_op op_pow pe_int pe_int) pa_nil)))))))
    (pss_one (ps_ret (pv 2))))))), ?_⟩
  refine ⟨_, rfl, b, 4, n + 7, rfl, by decide, by decide, hB, fun d1 H1 a1 a2 B1 U1 => ?_⟩
  refine ⟨_, rfl, _, _, rfl, rfl, _, rfl, ?_⟩
  refine ite2 (fun c => ?_) (fun c => ?_)
  · have c' : d1 < 2 := of_decide_eq_true c
    obtain ⟨v, e, hv⟩ := menuI (ns := [4, 30]) a1 (by show d1 < 2; exact c')
    have hv' : v = 4 ∨ v = 30 := by simpa using hv
    refine ⟨_, rfl, (by show 2 ≤ sizeLine; decide), fun l hl => ?_⟩
    refine ⟨_, rfl, l, _, _, _, rfl, rfl, SqL.of upd_same, e, b, v, n + 6, rfl, by omega, by omega, B1.same (same_new hl _), fun d2 H2 b1 b2 B2 U2 => ?_⟩
    refine q _ _ b1 ?_ (B2.less (by omega)) (U1.trans ((But.new hl _).trans U2))
    have e : (1000000 : Int) ^ 5 = 1000000000000000000000000000000 := by decide
    rw [e]
    omega
  · have c' : ¬ d1 < 2 := of_decide_eq_false (Bool.eq_false_iff.mpr c)
    obtain ⟨v, e, hv⟩ := menuI (ns := [2, 5]) (i := d1 - 2) (by omega) (by show d1 - 2 < 2; omega)
    have hv' : v = 2 ∨ v = 5 := by simpa using hv
    refine ⟨(by show 2 ≤ sizeLine; decide), fun l hl => ?_⟩
    refine ⟨_, rfl, _, _, rfl, rfl, l, _, _, _, rfl, rfl, SqL.of upd_same, e, v, rfl, by omega, by omega, ?_⟩
    refine for_range (lo := 0) (n := v.toNat) (fun i σ H' => ∃ (c : Int) (y : Option V), σ = [some (.ref b), some (.int d1), some (.int c), y] ∧ 0 ≤ c ∧ c < 1000000 ^ i ∧ Bag H' b (n + 5 - i) ∧ But b H H') ?_ ?_ ?_
    · exact ⟨0, none, rfl, Int.le_refl _, by decide, (B1.same (same_new hl _)).less (by omega), U1.trans (But.new hl _)⟩
    · rintro i σ H2 hi ⟨c, y, rfl, c0, c1, B2, U2⟩
      refine ⟨_, rfl, _, _, rfl, rfl, ⟨by decide, by decide, by decide⟩, _, _, rfl, rfl, .inr ⟨by decide, by decide⟩, ?_⟩
      refine ⟨_, rfl, _, _, rfl, rfl, ⟨by decide, by decide, by decide⟩, b, _, n + 4 - i, rfl, by decide, by decide, B2.less (by omega), fun d2 H3 b1 b2 B3 U3 => ?_⟩
      refine ⟨_, _, rfl, rfl, _, _, rfl, ?_, ?_, B3.less (by omega), U2.trans U3⟩
      · show 0 ≤ c * 1000000 + d2
        omega
      · have b2' : d2 < 1000000 := b2
        show c * 1000000 + d2 < 1000000 ^ (i + 1)
        rw [Int.pow_succ]
        generalize (1000000 : Int) ^ i = X at c1 ⊢
        omega
    · rintro σ H2 ⟨c, y, rfl, c0, c1, B2, U2⟩
      refine ⟨_, rfl, q c H2 c0 ?_ (B2.less (by omega)) U2⟩
      rcases hv' with rfl | rfl
      · exact Int.lt_trans c1 (by decide)
      · exact c1
end
end SH

set_option Elab.async false
set_option linter.all false
set_option maxRecDepth 100000
namespace SH
open PySem L2
theorem signs_ok {l : List Str} (h1 : 1 ≤ l.length) (h8 : l.length ≤ 8) (h : ∀ s ∈ l, ∃ c, s = one c ∧ 97 ≤ c ∧ c ≤ 122) : nmOk (PySem.Txt.join (PySem.Str.ofString "") l) := by
  have e : ∀ l : List Str, (∀ s ∈ l, ∃ c, s = one c ∧ 97 ≤ c ∧ c ≤ 122) → ((l.map codes).flatten).length = l.length ∧ ∀ c ∈ (l.map codes).flatten, 97 ≤ c ∧ c ≤ 122 := by
    intro l
    induction l with
    | nil => intro _; exact ⟨rfl, fun c hc => by cases hc⟩
    | cons a r ih =>
      intro h
      obtain ⟨i1, i2⟩ := ih fun s hs => h s (List.mem_cons_of_mem _ hs)
      obtain ⟨c, rfl, c1, c2⟩ := h a List.mem_cons_self
      refine ⟨?_, ?_⟩
      · show (c :: (r.map codes).flatten).length = r.length + 1
        rw [List.length_cons, i1]
      · intro x hx
        rcases List.mem_cons.mp (show x ∈ c :: (r.map codes).flatten from hx) with rfl | hx
        · exact ⟨c1, c2⟩
        · exact i2 x hx
  obtain ⟨e1, e2⟩ := e l h
  refine ⟨?_, ?_, ?_⟩
  · rw [join_codes, e1]; exact h1
  · rw [join_codes, e1]; exact h8
  · rw [join_codes]; exact e2
theorem pre_ok {k s : Str} {n : Nat} (hk : k ∈ kept) (hs : nmOk s) (h1 : 1 ≤ n) (h8 : n ≤ 8) : nmOk (cutS (k ++ s) none (some (n : Int))) := by
  obtain ⟨k1, k2⟩ := kept_pos k hk
  obtain ⟨s1, s2, s3⟩ := hs
  refine ⟨?_, ?_, ?_⟩
  · rw [cutN, codes_app, List.length_take, List.length_append]; omega
  · rw [cutN, List.length_take]; omega
  · rw [cutN, codes_app]
    intro c hc
    rcases List.mem_append.mp (List.mem_of_mem_take hc) with h | h
    · exact kept_ok k hk c h
    · exact s3 c h
theorem ones_len : ∀ l : List Str, (∀ s ∈ l, ∃ c, s = one c ∧ 97 ≤ c ∧ c ≤ 122) → (l.map (·.length)).sum = l.length
  | [], _ => rfl
  | a :: r, h => by
    have ih := ones_len r fun s hs => h s (List.mem_cons_of_mem _ hs)
    obtain ⟨c, rfl, _⟩ := h a List.mem_cons_self
    show (one c).length + (r.map (·.length)).sum = r.length + 1
    rw [ih]
    show 1 + r.length = r.length + 1
    omega
theorem letter_at {i : Int} (h0 : 0 ≤ i) (h1 : i < 26) : ∃ c, atI letters.cps.toList i = some c ∧ 97 ≤ c ∧ c ≤ 122 := by
  have hl : (codes letters).length = 26 := by decide +kernel
  have hk : i.toNat < (codes letters).length := by omega
  refine ⟨(codes letters)[i.toNat], ?_, letters_ok _ (List.getElem_mem hk)⟩
  have q : atI (codes letters) ((i.toNat : Nat) : Int) = some (codes letters)[i.toNat] := atI_nat (List.getElem?_eq_getElem hk)
  rwa [show ((i.toNat : Nat) : Int) = i by omega] at q
theorem filt_snoc {l : List Str} {L : List Str} {i : Nat} {x : Str} (h : l[i]? = some x) : (l.take (i + 1)).filter (fun y => !decide (y ∈ L)) = (l.take i).filter (fun y => !decide (y ∈ L)) ++ (if (!decide (x ∈ L)) = true then [x] else []) := by
  rw [List.take_add_one, h, List.filter_append]
  congr 1
  show List.filter _ [x] = _
  rw [List.filter_cons, List.filter_nil]
theorem names_len {l : List Str} (h : NmsOk l) : True := trivial
section
variable {P : Program} {w : World} {K : PySem.W.Frag} {mg : Str → Option Value} {base : Heap}
theorem ok_names {f t k : Addr} {fd td kd : FuncData} (F : Fun K "_law_names" "_law_names" sNames f fd) (TK : Fk P w K mg base 1 "_law_take" t td ["_law_bag_here", "_law_many"] spTake) (KP : Fk P w K mg base 1 "_law_kept" k kd [] spKept) (T : Bi mg) :
    FnOk P w K mg base CX0 2 f fd ["_law_bag_here", "_law_many"] spNames := by
  refine F.ok scNames (fun vs H Q E h => ?_) (fun cdv A outer s H vs Q E hr h => ?_)
  · obtain ⟨b, m, n, rfl, _⟩ := h
    rfl
  obtain ⟨b, m, n, rfl, hm, hB, q⟩ := h
  refine ⟨_, (pss_cons (ps_set (i := 2) scNames.nd rfl (Or.inr rfl) pe_str)
    (pss_cons (ps_set (i := 3) scNames.nd rfl (Or.inr rfl) (pe_lst pa_nil))
    (pss_cons (ps_for PassesOwn.never rfl (pi_range1 (by rfl) T.range (pa_cons (pv 1) pa_nil)) (pg_name (i := 4) scNames.nd rfl (.inl rfl))
      (pss_cons (ps_set (i := 5) scNames.nd rfl (Or.inr rfl) (pe_join pe_str (pe_lc (own := [("_law_j", 8)]) (g := gName 8) (tt := tYes) (by rfl) scNames.nd (pi_range1 (by rfl) T.range (pa_cons (pe_ix ix_list (pe_lst (pa_cons pe_int (pa_cons pe_int (pa_cons pe_int (pa_cons pe_int pa_nil))))) (pe_call TK.G (hr.mono (by omega)) (by rfl) TK.m TK.k TK.b .nil pass0 (pa_cons (pv 0) (pa_cons pe_int pa_nil))) (fun _ _ => rfl)) pa_nil)) (blkOk_by (own := [("_law_j", 8)]) (N := ["_law_bag_here", "_law_many", "_law_letters", "_law_found", "_law_k", "_law_name", "_law_way", "_law_some", "_law_j", "_law_letter", "_law_one"]) (sc := defScope sNames) (by decide +kernel)) (fun _ _ _ _ _ => pg_name (i := 8) scNames.nd rfl (Or.inl rfl)) (fun _ _ _ _ _ => pts_nil) (fun _ _ _ _ _ => (pe_ix ix_str (pv 2) (pe_call TK.G (hr.mono (by omega)) (by rfl) TK.m TK.k TK.b .nil pass0 (pa_cons (pv 0) (pa_cons pe_int pa_nil))) (fun _ _ => rfl))))))
    (pss_cons (ps_set (i := 6) scNames.nd rfl (Or.inl rfl) (pe_call TK.G (hr.mono (by omega)) (by rfl) TK.m TK.k TK.b .nil pass0 (pa_cons (pv 0) (pa_cons pe_int pa_nil))))
    (C8.pss_cut (ps_if (pt_cmpR op_lt (pv 6) pe_int (nomark _))
      (pss_one (ps_set (i := 5) scNames.nd rfl (Or.inr rfl) (pe_slice sl_str (pe_op op_add_str (pe_ix ix_list (pe_call0 KP.G (hr.mono (by omega)) (by rfl) KP.m KP.k KP.b .nil pass0) (pe_call TK.G (hr.mono (by omega)) (by rfl) TK.m TK.k TK.b .nil pass0 (pa_cons (pv 0) (pa_cons pe_int pa_nil))) (fun _ _ => rfl)) (pv 5)) po_none (po_some (pe_ix ix_list (pe_lst (pa_cons pe_int (pa_cons pe_int pa_nil))) (pv 6) (fun _ _ => rfl))))))
      pss_nil)
    (pss_cons (ps_setLc (i := 7) (own := [("_law_letter", 9)]) (g := gName 9) (tt := tYes) (by rfl) scNames.nd rfl rfl (sw_true rfl rfl rfl (by decide +kernel)) (pi_str (pv 2)) (blkOk_by (own := [("_law_letter", 9)]) (N := ["_law_bag_here", "_law_many", "_law_letters", "_law_found", "_law_k", "_law_name", "_law_way", "_law_some", "_law_j", "_law_letter", "_law_one"]) (sc := defScope sNames) (by decide +kernel)) (fun _ _ _ _ _ => pg_name (i := 9) scNames.nd rfl (Or.inl rfl)) (fun _ _ _ _ _ => pts_nil) (fun _ _ _ _ _ => (pe_op op_add_str (pv 9) (pe_slice sl_str (pv 5) (po_some pe_int) po_none))))
    (C8.pss_cut (ps_if (pt_cmpR op_in_seq (pv 5) (pe_op op_cat (pv 3) (pe_call0 KP.G (hr.mono (by omega)) (by rfl) KP.m KP.k KP.b .nil pass0)) rfl)
      (pss_one (ps_set (i := 5) scNames.nd rfl (Or.inr rfl) (pe_ix ix_list (pe_lc (own := [("_law_one", 10)]) (g := gName 10) (tt := tTest (tOp (rIn K true) (tVar 10) (tOp rCat (tVar 3) (tCall spKept [] E0 tNil)))) (by rfl) scNames.nd (pi_list (pv 7)) (blkOk_by (own := [("_law_one", 10)]) (N := ["_law_bag_here", "_law_many", "_law_letters", "_law_found", "_law_k", "_law_name", "_law_way", "_law_some", "_law_j", "_law_letter", "_law_one"]) (sc := defScope sNames) (by decide +kernel)) (fun _ _ _ _ _ => pg_name (i := 10) scNames.nd rfl (Or.inl rfl)) (fun _ _ _ _ _ => (pts_one (pt_cmpR (op_notIn_seqK K) (pv 10) (pe_op op_cat (pv 3) (pe_call0 KP.G (hr.mono (by omega)) (by rfl) KP.m KP.k KP.b .nil pass0)) rfl))) (fun _ _ _ _ _ => (pv 10))) pe_int (fun _ _ => rfl))))
      pss_nil)
    (pss_one (ps_expr (pe_bm PySem.F.plainAttrs_list PySem.F.slot_list_append PySem.F.type_list_append mt_append (pv 3) (pa_cons (pv 5) pa_nil))))))))))
    (pss_one (ps_ret (pv 3)))))), ?_⟩
  have hs : sizeLine = 16777216 := by decide
  refine ⟨Nat.zero_le _, fun p hp => ?_⟩
  obtain ⟨ys0, hb0⟩ := hB.lst
  have npb : p ≠ b := fun e => by rw [e, hb0] at hp; cases hp
  refine ⟨_, rfl, m, rfl, by omega, by omega, ?_⟩
  refine for_range (lo := 0) (n := (m : Int).toNat) (fun i σ H' => ∃ (nm : List Str) (y4 y5 y6 y7 : Option V), σ = [some (.ref b), some (.int m), some (.str letters), some (.ref p), y4, y5, y6, y7, none, none, none] ∧
    H' p = some (.lst (nm.map V.str)) ∧ nm.length = i ∧ NmsOk nm ∧ Bag H' b (n + 16 * (m - i)) ∧ But b H H') ?_ ?_ ?_
  · exact ⟨[], none, none, none, none, rfl, upd_same, rfl, ⟨fun s h => (by cases h), List.nodup_nil⟩, hB.same (same_new hp _), But.new hp _⟩
  · rintro i σ H1 hi ⟨nm, y4, y5, y6, y7, rfl, hp1, hl, hN, B1, U1⟩
    have hi' : i < m := by omega
    -- the name by its letters
    refine ⟨⟨_, rfl⟩, (by show 4 ≤ sizeLine; decide), fun l1 hl1 => ?_⟩
    refine ⟨_, rfl, b, 4, n + 16 * (m - i) - 1, rfl, by decide, by decide, (B1.same (same_new hl1 _)).less (by omega), fun d1 H2 a1 a2 B2 U2 => ?_⟩
    have nb1 : l1 ≠ b := fun e => by obtain ⟨ys, hy⟩ := B1.lst; rw [e, hy] at hl1; cases hl1
    have hl2 : H2 l1 = some (.lst (([1, 2, 3, 8] : List Int).map V.int)) := U2 _ _ nb1 upd_same
    obtain ⟨v, ev, hv⟩ := menuI (ns := [1, 2, 3, 8]) a1 (by show d1 < 4; exact a2)
    have hv' : 1 ≤ v ∧ v ≤ 8 := by
      have : v = 1 ∨ v = 2 ∨ v = 3 ∨ v = 8 := by simpa using hv
      omega
    refine ⟨l1, _, _, _, rfl, rfl, SqL.of hl2, ev, v, rfl, by omega, by omega, ?_⟩
    intro D hD
    have hp2 : H2 p = some (.lst (nm.map V.str)) := U2 _ _ npb ((same_new hl1 _) _ _ hp1)
    have nDb : D ≠ b := fun e => by obtain ⟨ys, hy⟩ := B2.lst; rw [e, hy] at hD; cases hD
    have nDp : D ≠ p := fun e => by rw [e, hp2] at hD; cases hD
    have U12 : But b H1 H2 := (But.new hl1 _).trans U2
    refine lc_range (lo := 0) (n := v.toNat) (fun j H' => ∃ ss : List Str, H' D = some (.lst (ss.map V.str)) ∧ ss.length = j ∧ (∀ s ∈ ss, ∃ c, s = one c ∧ 97 ≤ c ∧ c ≤ 122) ∧ Bag H' b (n + 16 * (m - i) - 1 - j) ∧ (∀ a o, a ≠ b → a ≠ D → H2 a = some o → H' a = some o)) ?_ ?_ ?_
    · refine ⟨[], upd_same, rfl, fun s h => (by cases h), (B2.same (same_new hD _)).less (by omega), fun a o _ _ e => (same_new hD _) _ _ e⟩
    · rintro j H3 hj ⟨ss, hD3, hss, hone, B3, U3⟩
      refine ⟨rfl, ?_⟩
      refine ⟨_, rfl, _, rfl, b, 26, n + 16 * (m - i) - 2 - j, rfl, by decide, by decide, B3.less (by omega), fun d2 H4 b1 b2 B4 U4 => ?_⟩
      obtain ⟨c, ec, c1, c2⟩ := letter_at b1 b2
      refine ⟨letters, _, c, rfl, rfl, (by show letters.length ≤ sizeLine; decide +kernel), ec, ?_⟩
      refine ⟨_, U4 _ _ nDb hD3, by rw [List.length_map, hss]; omega, ss ++ [one c], ?_, by rw [List.length_append, hss]; rfl, ?_, ?_, ?_⟩
      · rw [upd_same, List.map_append]
        rfl
      · intro s hs'
        rcases List.mem_append.mp hs' with h | h
        · exact hone s h
        · exact ⟨c, List.mem_singleton.mp h, c1, c2⟩
      · have B5 : Bag (upd H4 D (.lst (ss.map V.str ++ [V.str (one c)]))) b (n + 16 * (m - i) - 2 - j) := by
          obtain ⟨x, y, z, e, r⟩ := B4
          exact ⟨x, y, z, by rw [upd_ne (Ne.symm nDb)]; exact e, r⟩
        exact B5.less (by omega)
      · intro a o na nd e
        rw [upd_ne nd]
        exact U4 _ _ na (U3 a o na nd e)
    · rintro H3 ⟨ss, hD3, hss, hone, B3, U3⟩
      have hp3 : H3 p = some (.lst (nm.map V.str)) := U3 _ _ npb (Ne.symm nDp) hp2
      have U13 : But b H1 H3 := fun a o na e => U3 a o na (ne_of_none (U12 a o na e) hD) (U12 a o na e)
      refine ⟨_, D, ss, rfl, rfl, .inl (SqL.of hD3), ?_, ?_⟩
      · rw [ones_len ss hone, hss]
        have z : (PySem.Str.ofString "").length = 0 := by decide
        rw [z]
        omega
      have nok : nmOk (PySem.Txt.join (PySem.Str.ofString "") ss) := signs_ok (by rw [hss]; omega) (by rw [hss]; omega) hone
      generalize PySem.Txt.join (PySem.Str.ofString "") ss = nme at nok
      -- its way
      refine ⟨_, rfl, b, 8, n + 16 * (m - i) - 10, rfl, by decide, by decide, B3.less (by omega), fun d3 H4 c1 c2 B4 U4 => ?_⟩
      have hp4 : H4 p = some (.lst (nm.map V.str)) := U4 _ _ npb hp3
      refine ⟨fun σ' H' => ∃ nme', nmOk nme' ∧ σ' = [some (.ref b), some (.int m), some (.str letters), some (.ref p), some (.int (0 + i)), some (.str nme'), some (.int d3), y7, none, none, none] ∧ H' p = some (.lst (nm.map V.str)) ∧ Bag H' b (n + 16 * (m - i) - 11) ∧ But b H1 H', ?_, ?_⟩
      · refine ⟨_, rfl, _, _, rfl, rfl, _, rfl, ?_⟩
        refine ite2 (fun c => ?_) (fun c => ?_)
        · have c' : d3 < 2 := of_decide_eq_true c
          refine ⟨rfl, fun kp hkp => ?_⟩
          have nkb : kp ≠ b := fun e => by obtain ⟨ys, hy⟩ := B4.lst; rw [e, hy] at hkp; cases hkp
          refine ⟨_, rfl, b, 10, n + 16 * (m - i) - 11, rfl, by decide, by decide, (B4.same (same_new hkp _)).less (by omega), fun d4 H5 e1 e2 B5 U5 => ?_⟩
          obtain ⟨kw, ek, hk⟩ := menuS (ns := kept) e1 (by show d4 < 10; exact e2)
          have hk5 : H5 kp = some (.lst (kept.map V.str)) := U5 _ _ nkb upd_same
          refine ⟨kp, _, _, _, rfl, rfl, SqL.of hk5, ek, _, rfl, kw, nme, rfl, rfl, ?_, ?_⟩
          · have k2 := (kept_pos kw hk).2
            have n2 := nok.2.1
            rw [codes_len] at k2 n2
            omega
          obtain ⟨lim, el, hlim⟩ := menuI (ns := [8, 5]) c1 (by show d3 < 2; exact c')
          have hlim' : lim = 8 ∨ lim = 5 := by simpa using hlim
          refine ⟨(by show 2 ≤ sizeLine; decide), fun l2 hl2' => ?_⟩
          refine ⟨_, rfl, l2, _, _, _, rfl, rfl, SqL.of upd_same, el, _, rfl, kw ++ nme, rfl, ?_, ?_⟩
          · have k2 := (kept_pos kw hk).2
            have n2 := nok.2.1
            rw [codes_len] at k2 n2
            rw [app_len]
            omega
          refine ⟨cutS (kw ++ nme) none (some lim), ?_, rfl, ?_, ?_, ?_⟩
          · rcases hlim' with rfl | rfl
            · exact pre_ok (n := 8) hk nok (by decide) (by decide)
            · exact pre_ok (n := 5) hk nok (by decide) (by decide)
          · exact (same_new hl2' _) _ _ (U5 _ _ npb ((same_new hkp _) _ _ hp4))
          · exact B5.same (same_new hl2' _)
          · exact U13.trans (U4.trans ((But.new hkp _).trans (U5.trans (But.new hl2' _))))
        · exact ⟨nme, nok, rfl, hp4, B4.less (by omega), U13.trans U4⟩
      · rintro σ' H5 ⟨nme', nok', rfl, hp5, B5, U5⟩
        -- the twenty-six others
        refine ⟨_, rfl, letters, rfl, ?_⟩
        intro D2 hD2
        have nD2b : D2 ≠ b := fun e => by obtain ⟨ys, hy⟩ := B5.lst; rw [e, hy] at hD2; cases hD2
        have sz : letters.cps.size = 26 := by decide +kernel
        refine lc_it walk_str (fun j H' => H' = upd H5 D2 (.lst (((some26 nme').take j).map V.str))) rfl (fun _ _ _ _ => trivial) ?_ ?_
        · rintro j x H6 H7 hj rfl ⟨rfl, c, hc, rfl⟩
          refine ⟨rfl, ?_⟩
          refine ⟨_, rfl, _, rfl, 1, rfl, nme', rfl, ?_, one c, _, rfl, rfl, ?_, ?_⟩
          · have := nok'.2.1
            rw [codes_len] at this
            omega
          · have := nok'.2.1
            have e1 := cut1 nme'
            have e2 := congrArg List.length e1
            rw [codes_len, List.length_drop] at e2
            have e3 : (one c).length = 1 := rfl
            omega
          · refine ⟨_, upd_same, ?_, ?_⟩
            · rw [List.length_map, List.length_take]
              omega
            · have hx : (some26 nme')[j]? = some (one c ++ cutS nme' (some 1) none) := by
                unfold some26
                rw [List.getElem?_map, show (codes letters)[j]? = some c from by unfold codes; rw [Array.getElem?_toList]; exact hc]
                rfl
              rw [List.take_add_one, hx, List.map_append]
              funext a
              by_cases ha : a = D2
              · subst ha
                rw [upd_same, upd_same]
                rfl
              · rw [upd_ne ha, upd_ne ha, upd_ne ha]
        · rintro H6 rfl
          have e26 : (some26 nme').take letters.cps.size = some26 nme' := List.take_of_length_le (by rw [some26_len, sz]; omega)
          rw [e26]
          have s6 : Same H5 (upd H5 D2 (.lst ((some26 nme').map V.str))) := same_new hD2 _
          have hD6 : (upd H5 D2 (.lst ((some26 nme').map V.str))) D2 = some (.lst ((some26 nme').map V.str)) := upd_same
          generalize upd H5 D2 (.lst ((some26 nme').map V.str)) = H6 at s6 hD6
          have hp6 := s6 _ _ hp5
          have B6 := B5.same s6
          have len12 : (nm ++ kept).length ≤ 22 := by
            rw [List.length_append]
            have : kept.length = 10 := rfl
            omega
          refine ⟨fun σ' H' => ∃ fin, nmOk fin ∧ fin ∉ nm ++ kept ∧ σ' = [some (.ref b), some (.int m), some (.str letters), some (.ref p), some (.int (0 + i)), some (.str fin), some (.int d3), some (.ref D2), none, none, none] ∧ Same H6 H', ?_, ?_⟩
          · refine ⟨_, rfl, _, rfl, rfl, fun kp hkp => ?_⟩
            have sk : Same H6 (upd H6 kp (.lst (kept.map V.str))) := same_new hkp _
            refine ⟨p, kp, _, _, rfl, rfl, sk _ _ hp6, upd_same, ?_, fun u hu => ?_⟩
            · rw [List.length_map, List.length_map]
              have : kept.length = 10 := rfl
              omega
            have su : Same _ _ := same_new hu (.lst (nm.map V.str ++ kept.map V.str))
            refine ⟨u, _, rfl, .inl (SqL.of upd_same), rfl, ?_, _, rfl, ?_⟩
            · rw [← List.map_append]; exact flat_strs _
            rw [← List.map_append] at su ⊢
            rw [if_neg Bool.false_ne_true, inV_str]
            refine ite2 (fun c => ?_) (fun c => ?_)
            · have su' := sk.trans su
              generalize upd (upd H6 kp (.lst (kept.map V.str))) u (.lst ((nm ++ kept).map V.str)) = H8 at su'
              -- [one for one in some if ..][0]
              refine ⟨_, rfl, D2, rfl, ⟨_, SqL.of (su' _ _ hD6)⟩, ?_⟩
              intro D3 hD3
              refine lc_list (K := K) (a := D2) (xs := (some26 nme').map V.str) (fun j H' => H' D3 = some (.lst ((((some26 nme').take j).filter (fun y => !decide (y ∈ nm ++ kept))).map V.str)) ∧ Same H8 H') ⟨upd_same, same_new hD3 _⟩ (fun j H' _ h => SqL.of (h.2 _ _ (su' _ _ hD6))) ?_ ?_
              · rintro j x H9 hx ⟨h9, s9⟩
                obtain ⟨x', hx', rfl⟩ : ∃ x', (some26 nme')[j]? = some x' ∧ V.str x' = x := by
                  rw [List.getElem?_map] at hx
                  obtain ⟨x', h1, h2⟩ := Option.map_eq_some_iff.mp hx
                  exact ⟨x', h1, h2⟩
                have hj26 : j < 26 := by
                  obtain ⟨h1, _⟩ := List.getElem?_eq_some_iff.mp hx'
                  rwa [some26_len] at h1
                refine ⟨rfl, ?_⟩
                refine ⟨_, rfl, _, rfl, rfl, fun kp2 hkp2 => ?_⟩
                have sk2 : Same H9 (upd H9 kp2 (.lst (kept.map V.str))) := same_new hkp2 _
                refine ⟨p, kp2, _, _, rfl, rfl, sk2 _ _ (s9 _ _ (su' _ _ hp6)), upd_same, ?_, fun u2 hu2 => ?_⟩
                · rw [List.length_map, List.length_map]
                  have : kept.length = 10 := rfl
                  omega
                have su2 : Same _ _ := same_new hu2 (.lst (nm.map V.str ++ kept.map V.str))
                refine ⟨u2, _, rfl, .inl (SqL.of upd_same), rfl, ?_, _, rfl, ?_⟩
                · rw [← List.map_append]; exact flat_strs _
                rw [← List.map_append] at su2 ⊢
                rw [if_pos rfl, inV_str]
                have s10 := sk2.trans su2
                generalize upd (upd H9 kp2 (.lst (kept.map V.str))) u2 (.lst ((nm ++ kept).map V.str)) = H10 at s10
                have fs := filt_snoc (L := nm ++ kept) hx'
                refine ite2 (fun c2 => ?_) (fun c2 => ?_)
                · refine ⟨_, rfl, _, s10 _ _ h9, ?_, ?_, ?_⟩
                  · rw [List.length_map]
                    have := List.length_filter_le (fun y => !decide (y ∈ nm ++ kept)) ((some26 nme').take j)
                    rw [List.length_take, some26_len] at this
                    omega
                  · rw [upd_same, fs, if_pos c2, List.map_append]
                    rfl
                  · intro a o e
                    rw [upd_ne (ne_of_none e hD3)]
                    exact s10 _ _ (s9 _ _ e)
                · refine ⟨?_, s9.trans s10⟩
                  rw [fs, if_neg c2, List.append_nil]
                  exact s10 _ _ h9
              · rintro H9 ⟨h9, s9⟩
                rw [List.length_map, List.take_length] at h9
                obtain ⟨x, hx, hxL⟩ := pig (some26 nme') (nm ++ kept) (some26_nd _) (by rw [some26_len]; omega)
                have hin : x ∈ (some26 nme').filter (fun y => !decide (y ∈ nm ++ kept)) := List.mem_filter.mpr ⟨hx, by rw [decide_eq_false hxL]; rfl⟩
                cases hf : (some26 nme').filter (fun y => !decide (y ∈ nm ++ kept)) with
                | nil => rw [hf] at hin; cases hin
                | cons z r =>
                  have hz : z ∈ (some26 nme').filter (fun y => !decide (y ∈ nm ++ kept)) := by rw [hf]; exact List.mem_cons_self
                  obtain ⟨z1, z2⟩ := List.mem_filter.mp hz
                  rw [hf] at h9
                  refine ⟨D3, _, 0, .str z, rfl, rfl, SqL.of h9, atI_nat (j := 0) rfl, z, some26_ok nok' z1, ?_, rfl, su'.trans s9⟩
                  intro q
                  rw [decide_eq_true q] at z2
                  cases z2
            · refine ⟨nme', nok', ?_, rfl, sk.trans su⟩
              exact of_decide_eq_false (Bool.eq_false_iff.mpr c)
          · rintro σ' H7 ⟨fin, fok, fno, rfl, s7⟩
            have hp7 := s7 _ _ hp6
            refine ⟨_, rfl, .inl ⟨rfl, _, SqL.of hp7⟩, _, rfl, p, _, _, rfl, rfl, hp7, ?_, ?_⟩
            · rw [List.length_map]
              omega
            · refine ⟨nm ++ [fin], _, _, _, _, rfl, ?_, ?_, hN.snoc fok fno, ?_, ?_⟩
              · rw [upd_same, List.map_append]
                rfl
              · rw [List.length_append, hl]
                rfl
              · obtain ⟨x, y, z, e, r1, r2, r3, r4, r5⟩ := B6.same s7
                exact ⟨x, y, z, by rw [upd_ne (Ne.symm npb)]; exact e, r1, r2, r3, r4, by omega⟩
              · intro a o na e
                have hap : a ≠ p := ne_of_none e hp
                rw [upd_ne hap]
                exact s7 _ _ (s6 _ _ (U5 _ _ na (U1 _ _ na e)))
  · rintro σ H1 ⟨nm, y4, y5, y6, y7, rfl, hp1, hl, hN, B1, U1⟩
    exact ⟨_, rfl, q p nm H1 hp hp1 (by omega) hN (B1.less (by omega)) U1⟩
end
end SH

set_option Elab.async false
set_option linter.all false
set_option maxRecDepth 100000
namespace SH
open PySem L2
abbrev sTree : Stmt := topS 111
theorem scTree : FnScope ["_law_bag_here", "_law_names_here", "_law_deep", "_law_way", "_law_sign"] ["_law_bag_here", "_law_names_here", "_law_deep"] (defScope sTree) := ⟨rfl, rfl, rfl, by decide +kernel, rfl, by decide +kernel, by decide +kernel⟩
/-- an expression at most n deep, of these names -/
def Ex.of (nm : List Str) : Nat → Ex → Prop
  | 0, _ => False
  | _ + 1, .num i => 0 ≤ i ∧ i < 1000000 ^ 5
  | _ + 1, .nam s => s ∈ nm
  | n + 1, .op _ l r => Ex.of nm n l ∧ Ex.of nm n r
theorem Ex.of_up {nm : List Str} : ∀ {n m : Nat} {e : Ex}, n ≤ m → Ex.of nm n e → Ex.of nm m e
  | 0, _, _, _, h => h.elim
  | n + 1, m + 1, .num _, _, h => h
  | n + 1, m + 1, .nam _, _, h => h
  | n + 1, m + 1, .op _ _ _, hm, h => ⟨Ex.of_up (by omega) h.1, Ex.of_up (by omega) h.2⟩
theorem Ex.of_ok {nm : List Str} (hn : ∀ s ∈ nm, nmOk s) : ∀ {n : Nat} {e : Ex}, Ex.of nm n e → Ex.ok n e
  | 0, _, h => h
  | n + 1, .num i, h => log_ok h.1 h.2
  | n + 1, .nam s, h => by
    have q := (hn s h).2.1
    rw [codes_len] at q
    show s.length ≤ 2000
    omega
  | n + 1, .op _ _ _, h => ⟨Ex.of_ok hn h.1, Ex.of_ok hn h.2⟩
def sgs : List Sg := [.add, .sub, .mul, .lt, .eq]
def tc : Nat → Nat
  | 0 => 0
  | n + 1 => 2 * tc n + 12
def spTree (n : Nat) : Sp := fun vs H Q _ => ∃ (b a : Addr) (nm : List Str) (k : Nat), vs = [.ref b, .ref a, .int n] ∧ H a = some (.lst (nm.map V.str)) ∧ a ≠ b ∧ nm.length ≤ 1000 ∧ (∀ s ∈ nm, nmOk s) ∧ 1 ≤ n ∧ Bag H b (k + tc n) ∧
  ∀ (v : V) (e : Ex) (H' : Hp), TrIn H' e v → Ex.of nm n e → Bag H' b k → But b H H' → Q v H'
theorem sgs_at {i : Int} (h0 : 0 ≤ i) (h1 : i < 5) : ∃ g : Sg, atI (sgs.map fun g => V.str g.txt) i = some (.str g.txt) := by
  obtain ⟨v, e, m⟩ := menu (xs := sgs.map fun g => V.str g.txt) h0 (by show i < 5; exact h1)
  obtain ⟨g, _, rfl⟩ := List.mem_map.mp m
  exact ⟨g, e⟩
theorem strOk_nm {s : Str} (h : nmOk s) : PyData.strOk s = true := by
  unfold PyData.strOk
  rw [Array.all_eq_true']
  intro x hx
  have := (h.2.2 x (Array.mem_toList_iff.mpr hx)).2
  exact decide_eq_true (by omega)
theorem dp_strs {K : PySem.W.Frag} {H : Hp} : ∀ l : List Str, DpAll K H (l.map V.str) (l.map PyData.str)
  | [] => .nil
  | _ :: r => .cons (.str _) (dp_strs r)
theorem lay_strs : ∀ {l : List Str}, (∀ s ∈ l, nmOk s) → PyData.canLayAll0 (l.map PyData.str) = true ∧ PyData.depthAll (l.map PyData.str) = 0
  | [], _ => ⟨rfl, rfl⟩
  | a :: r, h => by
    obtain ⟨h1, h2⟩ := lay_strs (l := r) fun s hs => h s (List.mem_cons_of_mem _ hs)
    refine ⟨?_, ?_⟩
    · show (PyData.strOk a && PyData.canLayAll0 (r.map PyData.str)) = true
      rw [strOk_nm (h a List.mem_cons_self), h1] <;> rfl
    · show max 0 (PyData.depthAll (r.map PyData.str)) = 0
      rw [h2] <;> rfl
theorem shaped_strs {l : List Str} (h : ∀ s ∈ l, nmOk s) : SeqAt.shaped (.list (l.map PyData.str)) = true := by
  obtain ⟨h1, h2⟩ := lay_strs h
  show (PyData.canLayAll0 (l.map PyData.str) && decide (PyData.depthAll (l.map PyData.str) + 1 ≤ 64)) = true
  rw [h1, h2] <;> rfl
theorem trNum {H : Hp} {p : Addr} {i : Int} (h : H p = some (.tup [.str "number", .int i])) : TrIn H (.num i) (.ref p) := ⟨p, rfl, h⟩
theorem trNam {H : Hp} {p : Addr} {i : Str} (h : H p = some (.tup [.str "name", .str i])) : TrIn H (.nam i) (.ref p) := ⟨p, rfl, h⟩
def spTrees (N : Nat) : Sp := fun vs H Q E => ∃ n, n ≤ N ∧ spTree n vs H Q E
section
variable {P : Program} {w : World} {K : PySem.W.Frag} {mg : Str → Option Value} {base : Heap}
theorem ok_tree {n : Nat} {f t u : Addr} {fd td ud : FuncData} (F : Fun K "_law_tree" "_law_tree" sTree f fd) (TK : Fk P w K mg base 1 "_law_take" t td ["_law_bag_here", "_law_many"] spTake) (NB : Fk P w K mg base 2 "_law_number" u ud ["_law_bag_here"] spNumber)
    (TR : Fk P w K mg base (n + 2) "_law_tree" f fd ["_law_bag_here", "_law_names_here", "_law_deep"] (spTree n)) (T : Bi mg) : FnOk P w K mg base CX0 (n + 3) f fd ["_law_bag_here", "_law_names_here", "_law_deep"] (spTree (n + 1)) := by
  refine F.ok scTree (fun vs H Q E h => ?_) (fun cdv A outer s H vs Q E hr h => ?_)
  · obtain ⟨b, a, nm, k, rfl, _⟩ := h
    rfl
  obtain ⟨b, a, nm, k, rfl, ha, nab, hnl, hnm, _, hB, q⟩ := h
  refine ⟨_, (pss_cons (ps_set (i := 3) scTree.nd rfl (Or.inl rfl) (pe_call TK.G (hr.mono (by omega)) (by rfl) TK.m TK.k TK.b .nil pass0 (pa_cons (pv 0) (pa_cons pe_int pa_nil))))
    (pss_cons (ps_if (PW.pt (pw_or (pt_cmpR op_eq (pv 2) pe_int (nomark _)) (pw_or1 (pt_cmpR op_eq (pv 3) pe_int (nomark _)))))
      (C8.pss_cut (ps_if (PW.pt (pw_and (pt_cmpR (op_neD hr.units) (pv 1) (pe_lst pa_nil) (nomark _)) (pw_and1 (pt_cmpR op_gt (pe_call TK.G (hr.mono (by omega)) (by rfl) TK.m TK.k TK.b .nil pass0 (pa_cons (pv 0) (pa_cons pe_int pa_nil))) pe_int (nomark _)))))
      (pss_one (ps_ret (pe_tup (pa_cons pe_str (pa_cons (pe_ix ix_list (pv 1) (pe_call TK.G (hr.mono (by omega)) (by rfl) TK.m TK.k TK.b .nil pass0 (pa_cons (pv 0) (pa_cons (pe_callB call_len_seq (by rfl) T.len (by decide +kernel) (pa_cons (pv 1) pa_nil)) pa_nil))) (fun _ _ => rfl)) pa_nil)))))
      pss_nil)
    (pss_one (ps_ret (pe_tup (pa_cons pe_str (pa_cons (pe_call NB.G (hr.mono (by omega)) (by rfl) NB.m NB.k NB.b .nil pass0 (pa_cons (pv 0) pa_nil)) pa_nil))))))
      pss_nil)
    (pss_cons (ps_set (i := 4) scTree.nd rfl (Or.inl rfl) (pe_ix ix_list (pe_lst (pa_cons pe_str (pa_cons pe_str (pa_cons pe_str (pa_cons pe_str (pa_cons pe_str pa_nil)))))) (pe_call TK.G (hr.mono (by omega)) (by rfl) TK.m TK.k TK.b .nil pass0 (pa_cons (pv 0) (pa_cons pe_int pa_nil))) (fun _ _ => rfl)))
    (pss_one (ps_ret (pe_tup (pa_cons (pv 4) (pa_cons (pe_call TR.G hr (by rfl) TR.m TR.k TR.b .nil pass0 (pa_cons (pv 0) (pa_cons (pv 1) (pa_cons (pe_op op_sub (pv 2) pe_int) pa_nil)))) (pa_cons (pe_call TR.G hr (by rfl) TR.m TR.k TR.b .nil pass0 (pa_cons (pv 0) (pa_cons (pv 1) (pa_cons (pe_op op_sub (pv 2) pe_int) pa_nil)))) pa_nil))))))))), ?_⟩
  have hs : sizeLine = 16777216 := by decide
  have htc : tc (n + 1) = 2 * tc n + 12 := rfl
  refine ⟨_, rfl, b, 5, k + 2 * tc n + 11, rfl, by decide, by decide, hB, fun d1 H1 a1 a2 B1 U1 => ?_⟩
  have ha1 := U1 _ _ nab ha
  refine ⟨_, rfl, rfl, _, rfl, ?_⟩
  refine ite2 (fun c => ?leafA) (fun c => ⟨_, rfl, rfl, _, rfl, ite2 (fun c2 => ?leafB) (fun c2 => ?rec)⟩)
  case rec =>
    have hn1 : 1 ≤ n := by
      have c' : ¬ (V.int ((n + 1 : Nat) : Int) = V.int 1) := of_decide_eq_false (Bool.eq_false_iff.mpr c)
      rcases Nat.eq_zero_or_pos n with z | z
      · exact absurd (by rw [z]; rfl) c'
      · exact z
    refine ⟨(by show 5 ≤ sizeLine; decide), fun l hl => ?_⟩
    refine ⟨_, rfl, b, 5, k + 2 * tc n + 10, rfl, by decide, by decide, B1.same (same_new hl _), fun d2 H2 b1 b2 B2 U2 => ?_⟩
    obtain ⟨g, eg⟩ := sgs_at b1 b2
    have nlb : l ≠ b := fun e => by obtain ⟨ys, hy⟩ := B1.lst; rw [e, hy] at hl; cases hl
    have hl2 : H2 l = some (.lst (sgs.map fun g => V.str g.txt)) := U2 _ _ nlb upd_same
    refine ⟨l, _, _, _, rfl, rfl, SqL.of hl2, eg, ?_⟩
    have U12 : But b H H2 := U1.trans ((But.new hl _).trans U2)
    have ha2 := U12 _ _ nab ha
    have en : ((n + 1 : Nat) : Int) - 1 = (n : Int) := by omega
    refine ⟨_, rfl, _, rfl, _, rfl, _, rfl, _, _, rfl, rfl, b, a, nm, k + tc n, (by show [V.ref b, V.ref a, V.int (((n + 1 : Nat) : Int) - 1)] = _; rw [en]), ha2, nab, hnl, hnm, hn1, B2.less (by omega), fun v1 e1 H3 t1 o1 B3 U3 => ?_⟩
    have ha3 := U3 _ _ nab ha2
    refine ⟨_, rfl, _, rfl, _, rfl, _, _, rfl, rfl, b, a, nm, k, (by show [V.ref b, V.ref a, V.int (((n + 1 : Nat) : Int) - 1)] = _; rw [en]), ha3, nab, hnl, hnm, hn1, B3, fun v2 e2 H4 t2 o2 B4 U4 => ?_⟩
    refine ⟨(by show 3 ≤ sizeLine; decide), fun p hp => ?_⟩
    obtain ⟨ys, hys⟩ := B3.lst
    have t1' : TrIn H4 e1 v1 := t1.but hys U4
    refine q (.ref p) (.op g e1 e2) _ ⟨p, v1, v2, rfl, upd_same, t1'.same (same_new hp _), t2.same (same_new hp _)⟩ ⟨o1, o2⟩ (B4.same (same_new hp _)) (U12.trans (U3.trans (U4.trans (But.new hp _))))
  all_goals
    refine ⟨fun σ' H' => σ' = [some (.ref b), some (.ref a), some (.int ((n + 1 : Nat) : Int)), some (.int d1), none] ∧ Bag H' b (k + 8) ∧ But b H H', ?_, ?_⟩
    · refine ⟨_, rfl, Nat.zero_le _, fun l hl => ?_⟩
      have sl := same_new hl (.lst [])
      refine ⟨.list (nm.map PyData.str), .list [], .lst (SqL.of (sl _ _ ha1)) (dp_strs nm), .lst (SqL.of upd_same) .nil, shaped_strs hnm, rfl, _, rfl, ?_⟩
      cases hnm' : nm with
      | nil => exact ⟨rfl, (B1.same sl).less (by omega), U1.trans (But.of sl)⟩
      | cons z r =>
        have el : (nm.length : Int) = (z :: r).length := by rw [hnm']
        refine ⟨_, rfl, b, 3, k + 2 * tc n + 10, rfl, by decide, by decide, B1.same sl, fun d2 H2 b1 b2 B2 U2 => ?_⟩
        have U12 : But b H H2 := U1.trans ((But.of sl).trans U2)
        have ha2 : H2 a = some (.lst (nm.map V.str)) := U12 _ _ nab ha
        refine ⟨_, _, rfl, rfl, _, rfl, ?_⟩
        refine ite2 (fun c3 => ?_) (fun c3 => ?_)
        · refine ⟨_, rfl, _, rfl, _, rfl, a, _, rfl, .inl (SqL.of ha2), b, _, k + 2 * tc n + 9, rfl, ?_, ?_, B2, fun d3 H3 e1 e2 B3 U3 => ?_⟩
          · rw [List.length_map, el, List.length_cons]; omega
          · rw [List.length_map]; omega
          · rw [List.length_map] at e2
            obtain ⟨x, ex, hx⟩ := menuS (ns := nm) e1 e2
            refine ⟨a, _, _, _, rfl, rfl, SqL.of (U3 _ _ nab ha2), ex, (by show 2 ≤ sizeLine; decide), fun p hp => ?_⟩
            exact q (.ref p) (.nam x) _ (trNam upd_same) hx ((B3.same (same_new hp _)).less (by omega)) (U12.trans (U3.trans (But.new hp _)))
        · exact ⟨rfl, B2.less (by omega), U12⟩
    · rintro σ' H2 ⟨rfl, B2, U2⟩
      refine ⟨_, rfl, b, k, rfl, B2, fun i H3 i0 i1 B3 U3 => ?_⟩
      refine ⟨(by show 2 ≤ sizeLine; decide), fun p hp => ?_⟩
      exact q (.ref p) (.num i) _ (trNum upd_same) ⟨i0, i1⟩ (B3.same (same_new hp _)) (U2.trans (U3.trans (But.new hp _)))
theorem tree_none {f : Addr} {fd : FuncData} : FnOk P w K mg base CX0 2 f fd ["_law_bag_here", "_law_names_here", "_law_deep"] (spTree 0) := by
  have no : ∀ vs H Q E, ¬ spTree 0 vs H Q E := fun vs H Q E h => by
    obtain ⟨_, _, _, _, _, _, _, _, _, h1, _⟩ := h
    omega
  exact ⟨fun vs H Q E h => absurd h (no vs H Q E), fun A outer s H args us vs Q E _ _ _ _ h => absurd h (no vs H Q E)⟩
theorem trees {f t u : Addr} {fd td ud : FuncData} (F : Fun K "_law_tree" "_law_tree" sTree f fd) (m : mg "_law_tree" = some (.ref f)) (bd : Binds K fd ["_law_bag_here", "_law_names_here", "_law_deep"] []) (TK : Fk P w K mg base 1 "_law_take" t td ["_law_bag_here", "_law_many"] spTake)
    (NB : Fk P w K mg base 2 "_law_number" u ud ["_law_bag_here"] spNumber) (T : Bi mg) : ∀ n : Nat, FnOk P w K mg base CX0 (n + 2) f fd ["_law_bag_here", "_law_names_here", "_law_deep"] (spTree n)
  | 0 => tree_none
  | n + 1 => ok_tree F TK NB ⟨trees F m bd TK NB T n, m, F.kp, bd⟩ T
theorem trees_all {f t u : Addr} {fd td ud : FuncData} (F : Fun K "_law_tree" "_law_tree" sTree f fd) (m : mg "_law_tree" = some (.ref f)) (bd : Binds K fd ["_law_bag_here", "_law_names_here", "_law_deep"] []) (TK : Fk P w K mg base 1 "_law_take" t td ["_law_bag_here", "_law_many"] spTake)
    (NB : Fk P w K mg base 2 "_law_number" u ud ["_law_bag_here"] spNumber) (T : Bi mg) (N : Nat) : FnOk P w K mg base CX0 (N + 2) f fd ["_law_bag_here", "_law_names_here", "_law_deep"] (spTrees N) := by
  refine ⟨fun vs H Q E h => ?_, fun A outer s H args us vs Q E hr he hb hv h => ?_⟩
  · obtain ⟨n, hn, h⟩ := h
    exact (trees (P := P) (w := w) (base := base) F m bd TK NB T n).len vs H Q E h
  · obtain ⟨n, hn, h⟩ := h
    exact (trees (P := P) (w := w) (base := base) F m bd TK NB T n).run A outer s H args us vs Q E (hr.mono (by omega)) he hb hv h
end
end SH

set_option Elab.async false
set_option linter.all false
set_option maxRecDepth 100000
namespace SH
open PySem L2
/-! ### rows and works -/
def NmOk (s : Str) : Prop := nmOk s ∧ s ∉ kept
def Ex.fine : Nat → Ex → Prop
  | 0, _ => False
  | _ + 1, .num i => 0 ≤ i ∧ i < 1000000 ^ 5
  | _ + 1, .nam s => NmOk s
  | n + 1, .op _ l r => Ex.fine n l ∧ Ex.fine n r
theorem Ex.fine_up : ∀ {n m : Nat} {e : Ex}, n ≤ m → Ex.fine n e → Ex.fine m e
  | 0, _, _, _, h => h.elim
  | n + 1, m + 1, .num _, _, h => h
  | n + 1, m + 1, .nam _, _, h => h
  | n + 1, m + 1, .op _ _ _, hm, h => ⟨Ex.fine_up (by omega) h.1, Ex.fine_up (by omega) h.2⟩
theorem Ex.of_fine {nm : List Str} (hn : ∀ s ∈ nm, NmOk s) : ∀ {n : Nat} {e : Ex}, Ex.of nm n e → Ex.fine n e
  | 0, _, h => h
  | n + 1, .num i, h => h
  | n + 1, .nam s, h => hn s h
  | n + 1, .op _ _ _, h => ⟨Ex.of_fine hn h.1, Ex.of_fine hn h.2⟩
theorem Ex.fine_ok : ∀ {n : Nat} {e : Ex}, Ex.fine n e → Ex.ok n e
  | 0, _, h => h
  | n + 1, .num i, h => log_ok h.1 h.2
  | n + 1, .nam s, h => by
    have q := h.1.2.1
    rw [codes_len] at q
    show s.length ≤ 2000
    omega
  | n + 1, .op _ _ _, h => ⟨Ex.fine_ok h.1, Ex.fine_ok h.2⟩
inductive Rs where
  | nil
  | put (x : Str) (e : Ex) (t : Rs)
  | go (w : Bool) (x f : Str) (es : List Ex) (t : Rs)
  | wait (x y : Str) (e : Option Ex) (t : Rs)
  | iff (e : Ex) (a b t : Rs)
  | give (w : Bool) (e : Ex) (t : Rs)
def goW : Bool → Str
  | false => "go"
  | true => "call"
def giveW : Bool → Str
  | false => "give"
  | true => "fail"
def TrsIn (H : Hp) : List Ex → List V → Prop
  | [], vs => vs = []
  | e :: es, vs => ∃ v r, vs = v :: r ∧ TrIn H e v ∧ TrsIn H es r
def OptIn (H : Hp) : Option Ex → V → Prop
  | none, v => v = .non
  | some e, v => TrIn H e v
def RsIn (H : Hp) : Rs → List V → Prop
  | .nil, vs => vs = []
  | .put x e t, vs => ∃ a v r, vs = .ref a :: r ∧ H a = some (.tup [.str "put", .str x, v]) ∧ TrIn H e v ∧ RsIn H t r
  | .go w x f es t, vs => ∃ a p ws r, vs = .ref a :: r ∧ H a = some (.tup [.str (goW w), .str x, .str f, .ref p]) ∧ H p = some (.tup ws) ∧ TrsIn H es ws ∧ RsIn H t r
  | .wait x y oe t, vs => ∃ a v r, vs = .ref a :: r ∧ H a = some (.tup [.str "wait", .str x, .str y, v]) ∧ OptIn H oe v ∧ RsIn H t r
  | .iff e A B t, vs => ∃ a v p xs p' ys r, vs = .ref a :: r ∧ H a = some (.tup [.str "if", v, .ref p, .ref p']) ∧ TrIn H e v ∧ H p = some (.tup xs) ∧ RsIn H A xs ∧ H p' = some (.tup ys) ∧ RsIn H B ys ∧ RsIn H t r
  | .give w e t, vs => ∃ a v r, vs = .ref a :: r ∧ H a = some (.tup [.str (giveW w), v]) ∧ TrIn H e v ∧ RsIn H t r
def Rs.count : Rs → Nat
  | .nil => 0
  | .put _ _ t => 1 + t.count
  | .go _ _ _ _ t => 1 + t.count
  | .wait _ _ _ t => 1 + t.count
  | .iff _ a b t => 1 + a.count + b.count + t.count
  | .give _ _ t => 1 + t.count
def Rs.rc : Rs → Nat
  | .nil => 0
  | .iff _ a b _ => 1 + a.count + b.count
  | _ => 1
def Rs.tl : Rs → Rs
  | .nil => .nil
  | .put _ _ t => t
  | .go _ _ _ _ t => t
  | .wait _ _ _ t => t
  | .iff _ _ _ t => t
  | .give _ _ t => t
theorem Rs.count_eq (r : Rs) : r.count = r.rc + r.tl.count := by cases r <;> rfl
/-- the goes and calls, from the first on -/
def Rs.starts : Rs → List (Str × Nat)
  | .nil => []
  | .put _ _ t => t.starts
  | .go _ _ f es t => (f, es.length) :: t.starts
  | .wait _ _ _ t => t.starts
  | .iff _ a b t => a.starts ++ b.starts ++ t.starts
  | .give _ _ t => t.starts
def Rs.ok : Nat → Rs → Prop
  | _, .nil => True
  | n, .put x e t => NmOk x ∧ Ex.fine 6 e ∧ Rs.ok n t
  | n, .go _ x f es t => NmOk x ∧ NmOk f ∧ es.length ≤ 4 ∧ (∀ e ∈ es, Ex.fine 6 e) ∧ Rs.ok n t
  | n, .wait x y oe t => NmOk x ∧ NmOk y ∧ (∀ e, oe = some e → Ex.fine 6 e) ∧ Rs.ok n t
  | n, .iff e a b t => 1 ≤ n ∧ Ex.fine 6 e ∧ Rs.ok (n - 1) a ∧ Rs.ok (n - 1) b ∧ Rs.ok n t
  | n, .give _ e t => Ex.fine 6 e ∧ Rs.ok n t
theorem Rs.ok_tl {n : Nat} : ∀ {r : Rs}, Rs.ok n r → Rs.ok n r.tl
  | .nil, _ => trivial
  | .put _ _ _, h => h.2.2
  | .go _ _ _ _ _, h => h.2.2.2.2
  | .wait _ _ _ _, h => h.2.2.2
  | .iff _ _ _ _, h => h.2.2.2.2
  | .give _ _ _, h => h.2
theorem RsIn.tl {H : Hp} : ∀ {r : Rs} {v : V} {vs : List V}, RsIn H r (v :: vs) → RsIn H r.tl vs
  | .nil, _, _, h => by cases h
  | .put _ _ _, _, _, ⟨a, v, r, e, _, _, h⟩ => by cases e; exact h
  | .go _ _ _ _ _, _, _, ⟨a, p, ws, r, e, _, _, _, h⟩ => by cases e; exact h
  | .wait _ _ _ _, _, _, ⟨a, v, r, e, _, _, h⟩ => by cases e; exact h
  | .iff _ _ _ _, _, _, ⟨a, v, p, xs, p', ys, r, e, _, _, _, _, _, _, h⟩ => by cases e; exact h
  | .give _ _ _, _, _, ⟨a, v, r, e, _, _, h⟩ => by cases e; exact h
theorem Rs.rc_pos {H : Hp} : ∀ {r : Rs} {v : V} {vs : List V}, RsIn H r (v :: vs) → 1 ≤ r.rc
  | .nil, _, _, h => by cases h
  | .put _ _ _, _, _, _ => Nat.le_refl _
  | .go _ _ _ _ _, _, _, _ => Nat.le_refl _
  | .wait _ _ _ _, _, _, _ => Nat.le_refl _
  | .iff _ a b _, _, _, _ => by show 1 ≤ 1 + a.count + b.count; omega
  | .give _ _ _, _, _, _ => Nat.le_refl _
/-! ### a name of the module that holds a number -/
def Gi (mg : Str → Option Value) (x : Str) (i : Int) : Prop := ∃ t, mg x = some (.int i t)
theorem pe_gi {X : Cx} {x : Str} {i : Int} {pos : Pos} (h : Gi X.mg x i) (hg : Gl X x := by rfl) (hd : (x == ("__debug__" : Str)) = false := by decide) : PE X (.Name x pos) (tC (.int i)) := by
  obtain ⟨t, h⟩ := h
  exact pe_glob hg h ⟨t, rfl⟩ hd
def signsL : List Str := ["+", "-", "*", "<", "=="]
structure Gf (K : PySem.W.Frag) (mg : Str → Option Value) : Prop where
  words : ∃ a, mg "WORDS" = some (.ref a) ∧ ∀ H, SqT K H a (kept.map V.str)
  signs : ∃ a, mg "SIGNS" = some (.ref a) ∧ ∀ H, SqT K H a (signsL.map V.str)
  letters : ∃ t, mg "LETTERS" = some (.str letters t)
  works : Gi mg "MOST_WORKS" 12
  rows : Gi mg "MOST_ROWS" 40
  names : Gi mg "MOST_NAMES" 4
  exprs : Gi mg "MOST_EXPRESSIONS" 4
  ifs : Gi mg "MOST_IFS" 3
  lets : Gi mg "MOST_LETTERS" 8
  room : Gi mg "MOST_ROOM" 1000
  num : Gi mg "MOST_NUMBER" (1000000 ^ 5 - 1)
  norows : Gi mg "NO_ROWS" (-1)
abbrev sTupOf : Stmt := topS 40
abbrev sWhole : Stmt := topS 41
abbrev sWithin : Stmt := topS 42
abbrev sIsName : Stmt := topS 43
abbrev sLeaf : Stmt := topS 46
abbrev sIsEx : Stmt := topS 45
theorem scTupOf : FnScope ["thing", "many"] ["thing", "many"] (defScope sTupOf) := ⟨rfl, rfl, rfl, by decide +kernel, rfl, by decide +kernel, by decide +kernel⟩
theorem scWhole : FnScope ["thing"] ["thing"] (defScope sWhole) := ⟨rfl, rfl, rfl, by decide +kernel, rfl, by decide +kernel, by decide +kernel⟩
theorem scWithin : FnScope ["thing", "most"] ["thing", "most"] (defScope sWithin) := ⟨rfl, rfl, rfl, by decide +kernel, rfl, by decide +kernel, by decide +kernel⟩
theorem scIsName : FnScope ["thing", "letter"] ["thing"] (defScope sIsName) := ⟨rfl, rfl, rfl, by decide +kernel, rfl, by decide +kernel, by decide +kernel⟩
theorem scLeaf : FnScope ["pair"] ["pair"] (defScope sLeaf) := ⟨rfl, rfl, rfl, by decide +kernel, rfl, by decide +kernel, by decide +kernel⟩
theorem scIsEx : FnScope ["thing", "deepest"] ["thing", "deepest"] (defScope sIsEx) := ⟨rfl, rfl, rfl, by decide +kernel, rfl, by decide +kernel, by decide +kernel⟩
def spTupOf : Sp := fun vs H Q _ => ∃ (a : Addr) (xs : List V) (n : Int), vs = [.ref a, .int n] ∧ H a = some (.tup xs) ∧ Q (.bl (decide (V.int (xs.length : Nat) = V.int n))) H
def spWhole : Sp := fun vs H Q _ => ∃ i : Int, vs = [.int i] ∧ Q (.bl true) H
def spWithin : Sp := fun vs H Q _ => ∃ i m : Int, vs = [.int i, .int m] ∧ 0 ≤ i ∧ i ≤ m ∧ Q (.bl true) H
def spIsName : Sp := fun vs H Q _ => ∃ s : Str, vs = [.str s] ∧ NmOk s ∧ ∀ H', Same H H' → Q (.bl true) H'
def Ex.isLeaf : Ex → Bool
  | .op _ _ _ => false
  | _ => true
def spLeaf : Sp := fun vs H Q _ => ∃ (v : V) (e : Ex), vs = [v] ∧ TrIn H e v ∧ e.isLeaf = true ∧ Ex.fine 1 e ∧ ∀ H', Same H H' → Q (.bl true) H'
def spIsEx (n : Nat) : Sp := fun vs H Q _ => ∃ (v : V) (e : Ex), vs = [v, .int n] ∧ TrIn H e v ∧ Ex.fine n e ∧ ∀ H', Same H H' → Q (.bl true) H'
section
variable {P : Program} {w : World} {K : PySem.W.Frag} {mg : Str → Option Value} {base : Heap}
/-- a def with defaults, no error leaves it -/
theorem ok0 {x qual : Str} {st : Stmt} {dvs : List V} {kws : List (Str × V)} {f : Addr} {fd : FuncData} {N ps : List Str} {k : Nat} {sp : Sp} (F : FunD K x qual (defArgs st) (defBody st) (defScope st) dvs kws f fd) (S : FnScope N ps (defScope st)) (len : ∀ vs H Q E, sp vs H Q E → vs.length = ps.length)
    (hb : ∀ (cdv : Value) (A : Around) (outer : List Env) (s : Shared) (H : Hp) (vs : List V) (Q : VK) (E : XK), Room k (A.deeper (PyProof.Rows.envOfC qual (defScope st) s.heap.objs.size f cdv)) → sp vs H Q E →
      ∃ t, PSs (cxOf CX0 P w K mg base N qual (defScope st) f cdv A outer s H E).nox (defBody st) t ∧ t { nx := fun _ H' => Q .non H', rt := Q } (L2.start N vs) H) : FnOk P w K mg base CX0 (k + 1) f fd ps sp :=
  F.ok S len fun cdv A outer s H vs Q E hr h => by
    obtain ⟨t, h1, h2⟩ := hb cdv A outer s H vs Q E hr h
    exact ⟨t, h1.nox, h2⟩
theorem ok_tupOf {f : Addr} {fd : FuncData} (F : Fun K "is_tuple_of" "is_tuple_of" sTupOf f fd) (T : Bi mg) (mt : mg "tuple" = none) : FnOk P w K mg base CX0 1 f fd ["thing", "many"] spTupOf := by
  refine F.ok scTupOf (fun vs H Q E h => ?_) (fun cdv A outer s H vs Q E hr h => ?_)
  · obtain ⟨a, xs, n, rfl, _⟩ := h
    rfl
  obtain ⟨a, xs, n, rfl, ha, q⟩ := h
  refine ⟨_, (pss_one (ps_ret (pe_and (pe_callB call_isi (by rfl) T.isinstance (by decide +kernel) (pa_cons (pv 0) (pa_cons (pe_bltn (v := .ty "tuple") (by rfl) mt (by decide +kernel) rfl) pa_nil))) (pe_one (pe_cmpR op_eq (pe_callB call_len_seq (by rfl) T.len (by decide +kernel) (pa_cons (pv 0) pa_nil)) (pv 1) (nomark _)))))), ?_⟩
  refine ⟨_, rfl, _, _, _, _, true, rfl, .ty "tuple", .base (.tup ha), kit_ty (by decide +kernel), _, rfl, ?_⟩
  exact ⟨_, rfl, a, _, rfl, .inr (SqT.of ha), _, rfl, rfl, q⟩
theorem ok_whole {f : Addr} {fd : FuncData} (F : Fun K "is_whole" "is_whole" sWhole f fd) (T : Bi mg) (mt : mg "bool" = none) : FnOk P w K mg base CX0 1 f fd ["thing"] spWhole := by
  refine F.ok scWhole (fun vs H Q E h => ?_) (fun cdv A outer s H vs Q E hr h => ?_)
  · obtain ⟨i, rfl, _⟩ := h
    rfl
  obtain ⟨i, rfl, q⟩ := h
  refine ⟨_, (pss_one (ps_ret (pe_and (pe_callB call_isi (by rfl) T.isinstance (by decide +kernel) (pa_cons (pv 0) (pa_cons (pe_bltn (v := .ty "int") (by rfl) T.int (by decide +kernel) rfl) pa_nil))) (pe_one (pe_not (pe_callB call_isi (by rfl) T.isinstance (by decide +kernel) (pa_cons (pv 0) (pa_cons (pe_bltn (v := .ty "bool") (by rfl) mt (by decide +kernel) rfl) pa_nil)))))))), ?_⟩
  refine ⟨_, rfl, _, _, _, _, true, rfl, .ty "int", .base (.int i), kit_ty (by decide +kernel), _, rfl, ?_⟩
  exact ⟨_, rfl, _, _, _, _, false, rfl, .ty "bool", .base (.int i), kit_ty (by decide +kernel), _, rfl, q⟩
theorem ok_within {f g : Addr} {fd gd : FuncData} (F : Fun K "is_whole_within" "is_whole_within" sWithin f fd) (WH : Fk P w K mg base 1 "is_whole" g gd ["thing"] spWhole) : FnOk P w K mg base CX0 2 f fd ["thing", "most"] spWithin := by
  refine F.ok scWithin (fun vs H Q E h => ?_) (fun cdv A outer s H vs Q E hr h => ?_)
  · obtain ⟨i, m, rfl, _⟩ := h
    rfl
  obtain ⟨i, m, rfl, h0, h1, q⟩ := h
  refine ⟨_, (pss_one (ps_ret (pe_and (pe_call WH.G (hr.mono (by omega)) (by rfl) WH.m WH.k WH.b .nil pass0 (pa_cons (pv 0) pa_nil)) (pe_one (pe_chain op_le op_le pe_int (pv 0) (pv 1)))))), ?_⟩
  refine ⟨_, rfl, i, rfl, _, rfl, ?_⟩
  refine ⟨_, rfl, _, _, rfl, rfl, _, rfl, ?_⟩
  rw [decide_eq_true h0]
  refine ⟨_, rfl, _, _, rfl, rfl, ?_⟩
  show Q (.bl (decide (i ≤ m))) H
  rw [decide_eq_true h1]
  exact q
theorem ok_isName {f : Addr} {fd : FuncData} (F : Fun K "is_name" "is_name" sIsName f fd) (T : Bi mg) (G : Gf K mg) : FnOk P w K mg base CX0 1 f fd ["thing"] spIsName := by
  refine F.ok scIsName (fun vs H Q E h => ?_) (fun cdv A outer s H vs Q E hr h => ?_)
  · obtain ⟨i, rfl, _⟩ := h
    rfl
  obtain ⟨z, rfl, ⟨⟨n1, n2, n3⟩, nk⟩, q⟩ := h
  obtain ⟨aW, gW, sW⟩ := G.words
  obtain ⟨tL, gLt⟩ := G.letters
  refine ⟨_, (pss_cons (ps_if (PW.pt (pw_or (pt_not (pt_val (pe_callB call_isi (by rfl) T.isinstance (by decide +kernel) (pa_cons (pv 0) (pa_cons (pe_bltn (v := .ty "str") (by rfl) T.str (by decide +kernel) rfl) pa_nil))))) (pw_or1 (pt_not (pt_chain op_le op_le pe_int (pe_callB call_len (by rfl) T.len (by decide +kernel) (pa_cons (pv 0) pa_nil)) (pe_gi G.lets))))))
      (pss_one (ps_ret pe_bl))
      pss_nil)
    (pss_one (ps_ret (pe_and (pe_cmpR op_notIn_seq (pv 0) (pe_glob (v := .ref aW) rfl gW rfl) rfl) (pe_one (pe_callB (cr_all rfl) (by rfl) T.all (by decide +kernel) (pa_cons (pe_lc (own := [("letter", 1)]) (g := gName 1) (tt := tYes) (by rfl) scIsName.nd (pi_str (pv 0)) (blkOk_by (own := [("letter", 1)]) (N := ["thing", "letter"]) (sc := defScope sIsName) (by decide +kernel)) (fun _ _ _ _ _ => pg_name (i := 1) scIsName.nd rfl (Or.inl rfl)) (fun _ _ _ _ _ => pts_nil) (fun _ _ _ _ _ => (pe_cmpR op_in_sign (pv 1) (pe_glob (v := .str letters) rfl gLt ⟨_, rfl⟩) rfl))) pa_nil))))))), ?_⟩
  rw [codes_len] at n1 n2
  have hs : sizeLine = 16777216 := by decide
  refine ⟨_, rfl, _, _, _, _, true, rfl, .ty "str", .base (.str z), kit_ty (by decide +kernel), _, rfl, ?_⟩
  refine ⟨_, rfl, _, z.length, rfl, ⟨by omega, rfl⟩, _, _, rfl, rfl, _, rfl, ?_⟩
  rw [decide_eq_true (by omega : (1 : Int) ≤ (z.length : Nat))]
  refine ⟨_, _, rfl, rfl, _, rfl, ?_⟩
  rw [decide_eq_true (by omega : ((z.length : Nat) : Int) ≤ 8)]
  refine ⟨_, rfl, aW, _, rfl, .inr (sW _), rfl, flat_strs kept, _, rfl, ?_⟩
  rw [if_pos rfl, inV_str, decide_eq_false nk]
  refine ⟨_, rfl, z, rfl, ?_⟩
  intro D hD
  refine lc_it walk_str (fun j H' => H' D = some (.lst ((List.replicate j true).map V.bl)) ∧ Same H H') ⟨upd_same, same_new hD _⟩ (fun _ _ _ _ => trivial) ?_ ?_
  · rintro j x H1 H2 hj ⟨hD1, s1⟩ ⟨rfl, c, hc, rfl⟩
    refine ⟨rfl, ?_⟩
    refine ⟨_, rfl, c, letters, rfl, rfl, ?_⟩
    have hc' : c ∈ letters.cps.toList := by
      have hm : c ∈ codes z := by
        unfold codes
        exact List.mem_of_getElem? (by rw [Array.getElem?_toList]; exact hc)
      have hr' := n3 c hm
      have all : ∀ c : Fin 123, 97 ≤ c.val → c.val ∈ letters.cps.toList := by decide +kernel
      exact all ⟨c, by omega⟩ hr'.1
    refine ⟨_, hD1, ?_, ?_, ?_⟩
    · rw [List.length_map, List.length_replicate]
      have : j < z.length := hj
      omega
    · rw [upd_same, decide_eq_true hc', List.replicate_succ', List.map_append]
      rfl
    · intro x o zz
      rw [upd_ne (ne_of_none zz hD)]
      exact s1 _ _ zz
  · rintro H1 ⟨hD1, s1⟩
    refine ⟨D, _, rfl, SqL.of hD1, ?_⟩
    have : (List.replicate z.cps.size true).all id = true := by
      rw [List.all_eq_true]
      intro x hx
      exact (List.mem_replicate.mp hx).2
    rw [this]
    exact q H1 s1
theorem ok_leaf {f g h : Addr} {fd gd hd : FuncData} (F : Fun K "is_leaf" "is_leaf" sLeaf f fd) (WI : Fk P w K mg base 2 "is_whole_within" g gd ["thing", "most"] spWithin) (IN : Fk P w K mg base 1 "is_name" h hd ["thing"] spIsName) (G : Gf K mg) : FnOk P w K mg base CX0 3 f fd ["pair"] spLeaf := by
  refine F.ok scLeaf (fun vs H Q E h => ?_) (fun cdv A outer s H vs Q E hr h => ?_)
  · obtain ⟨v, e, rfl, _⟩ := h
    rfl
  obtain ⟨v, e, rfl, hT, hlf, hf, q⟩ := h
  refine ⟨_, (pss_cons (ps_if (pt_cmpR op_eq (pe_ix ix_tup (pv 0) pe_int (fun _ _ => rfl)) pe_str (nomark _))
      (pss_one (ps_ret (pe_call WI.G (hr.mono (by omega)) (by rfl) WI.m WI.k WI.b .nil pass0 (pa_cons (pe_ix ix_tup (pv 0) pe_int (fun _ _ => rfl)) (pa_cons (pe_gi G.num) pa_nil)))))
      pss_nil)
    (pss_one (ps_ret (pe_and (pe_cmpR op_eq (pe_ix ix_tup (pv 0) pe_int (fun _ _ => rfl)) pe_str (nomark _)) (pe_one (pe_call IN.G (hr.mono (by omega)) (by rfl) IN.m IN.k IN.b .nil pass0 (pa_cons (pe_ix ix_tup (pv 0) pe_int (fun _ _ => rfl)) pa_nil))))))), ?_⟩
  cases e with
  | num i =>
    obtain ⟨a, rfl, ha⟩ := hT
    refine ⟨_, rfl, a, _, 0, _, rfl, rfl, SqT.of ha, atI_nat rfl, rfl, _, rfl, ?_⟩
    rw [decide_eq_true rfl]
    refine iteT ⟨_, rfl, a, _, 1, _, rfl, rfl, SqT.of ha, atI_nat (j := 1) rfl, i, _, rfl, hf.1, ?_, q H (Same.refl H)⟩
    have := hf.2
    omega
  | nam z =>
    obtain ⟨a, rfl, ha⟩ := hT
    refine ⟨_, rfl, a, _, 0, _, rfl, rfl, SqT.of ha, atI_nat rfl, rfl, _, rfl, ?_⟩
    rw [decide_eq_false (by intro z; have := V.str.inj z; revert this; decide +kernel)]
    refine iteF ?_
    refine ⟨_, rfl, a, _, 0, _, rfl, rfl, SqT.of ha, atI_nat rfl, rfl, _, rfl, ?_⟩
    rw [decide_eq_true rfl]
    refine iteT ⟨_, rfl, a, _, 1, _, rfl, rfl, SqT.of ha, atI_nat (j := 1) rfl, z, rfl, hf, q⟩
  | op g l r => cases hlf
theorem ok_isEx {n : Nat} {f t l : Addr} {fd td ld : FuncData} (F : FunD K "is_expression" "is_expression" (defArgs sIsEx) (defBody sIsEx) (defScope sIsEx) [.int 6] [] f fd) (TO : Fk P w K mg base 1 "is_tuple_of" t td ["thing", "many"] spTupOf) (LF : Fk P w K mg base 3 "is_leaf" l ld ["pair"] spLeaf)
    (IE : Fk P w K mg base (n + 3) "is_expression" f fd ["thing", "deepest"] (spIsEx n)) (G : Gf K mg) : FnOk P w K mg base CX0 (n + 4) f fd ["thing", "deepest"] (spIsEx (n + 1)) := by
  refine ok0 F scIsEx (fun vs H Q E h => ?_) (fun cdv A outer s H vs Q E hr h => ?_)
  · obtain ⟨v, e, rfl, _⟩ := h
    rfl
  obtain ⟨v, e, rfl, hT, hf, q⟩ := h
  obtain ⟨aS, gS, sS⟩ := G.signs
  refine ⟨_, (pss_cons (ps_if (pt_val (pe_call TO.G (hr.mono (by omega)) (by rfl) TO.m TO.k TO.b .nil pass0 (pa_cons (pv 0) (pa_cons pe_int pa_nil))))
      (pss_one (ps_ret (pe_call LF.G (hr.mono (by omega)) (by rfl) LF.m LF.k LF.b .nil pass0 (pa_cons (pv 0) pa_nil))))
      pss_nil)
    (pss_cons (ps_if (PW.pt (pw_or (pt_not (pt_val (pe_call TO.G (hr.mono (by omega)) (by rfl) TO.m TO.k TO.b .nil pass0 (pa_cons (pv 0) (pa_cons pe_int pa_nil))))) (pw_or1 (pt_cmpR op_notIn_seq (pe_ix ix_tup (pv 0) pe_int (fun _ _ => rfl)) (pe_glob (v := .ref aS) rfl gS rfl) rfl))))
      (pss_one (ps_ret pe_bl))
      pss_nil)
    (pss_one (ps_ret (pe_and (pe_cmpR op_gt (pv 1) pe_int (nomark _)) (pe_and (pe_call IE.G hr (by rfl) IE.m IE.k IE.b .nil pass0 (pa_cons (pe_ix ix_tup (pv 0) pe_int (fun _ _ => rfl)) (pa_cons (pe_op op_sub (pv 1) pe_int) pa_nil))) (pe_one (pe_call IE.G hr (by rfl) IE.m IE.k IE.b .nil pass0 (pa_cons (pe_ix ix_tup (pv 0) pe_int (fun _ _ => rfl)) (pa_cons (pe_op op_sub (pv 1) pe_int) pa_nil)))))))))), ?_⟩
  cases e with
  | num i =>
    have hT' := hT
    obtain ⟨a, rfl, ha⟩ := hT
    refine ⟨_, rfl, a, _, 2, rfl, ha, _, rfl, ?_⟩
    refine ⟨_, rfl, _, .num i, rfl, hT', rfl, hf, q⟩
  | nam z =>
    have hT' := hT
    obtain ⟨a, rfl, ha⟩ := hT
    refine ⟨_, rfl, a, _, 2, rfl, ha, _, rfl, ?_⟩
    refine ⟨_, rfl, _, .nam z, rfl, hT', rfl, hf, q⟩
  | op g x y =>
    obtain ⟨a, vx, vy, rfl, ha, tx, ty⟩ := hT
    refine ⟨_, rfl, a, _, 2, rfl, ha, _, rfl, ?_⟩
    refine ⟨_, rfl, a, _, 3, rfl, ha, _, rfl, ?_⟩
    refine ⟨_, rfl, a, _, 0, _, rfl, rfl, SqT.of ha, atI_nat rfl, aS, _, rfl, .inr (sS _), rfl, flat_strs signsL, _, rfl, ?_⟩
    have e1 : inV (.str g.txt) (signsL.map V.str) = true := by
      rw [inV_str]
      cases g <;> decide +kernel
    rw [if_pos rfl, e1]
    have hn : 1 ≤ n := by
      cases n with
      | zero => exact hf.1.elim
      | succ m => exact Nat.succ_le_succ (Nat.zero_le _)
    have en : ((n + 1 : Nat) : Int) - 1 = (n : Int) := by omega
    refine ⟨_, rfl, _, _, rfl, rfl, _, rfl, ?_⟩
    rw [decide_eq_true (by omega : (1 : Int) < ((n + 1 : Nat) : Int))]
    refine ⟨_, rfl, a, _, 1, _, rfl, rfl, SqT.of ha, atI_nat (j := 1) rfl, _, rfl, _, _, rfl, rfl, vx, x, (by show [vx, V.int (((n + 1 : Nat) : Int) - 1)] = _; rw [en]), tx, hf.1, fun H1 s1 => ?_⟩
    refine ⟨_, rfl, ?_⟩
    refine ⟨_, rfl, a, _, 2, _, rfl, rfl, SqT.of (s1 _ _ ha), atI_nat (j := 2) rfl, _, rfl, _, _, rfl, rfl, vy, y, (by show [vy, V.int (((n + 1 : Nat) : Int) - 1)] = _; rw [en]), ty.same s1, hf.2, fun H2 s2 => q H2 (s1.trans s2)⟩
theorem isEx_none {f : Addr} {fd : FuncData} : FnOk P w K mg base CX0 3 f fd ["thing", "deepest"] (spIsEx 0) := by
  have no : ∀ vs H Q E, ¬ spIsEx 0 vs H Q E := fun vs H Q E h => by
    obtain ⟨_, _, _, _, h1, _⟩ := h
    exact h1
  exact ⟨fun vs H Q E h => absurd h (no vs H Q E), fun A outer s H args us vs Q E _ _ _ _ h => absurd h (no vs H Q E)⟩
theorem isExs {f t l : Addr} {fd td ld : FuncData} (F : FunD K "is_expression" "is_expression" (defArgs sIsEx) (defBody sIsEx) (defScope sIsEx) [.int 6] [] f fd) (m : mg "is_expression" = some (.ref f)) (bd : Binds K fd ["thing", "deepest"] []) (TO : Fk P w K mg base 1 "is_tuple_of" t td ["thing", "many"] spTupOf) (LF : Fk P w K mg base 3 "is_leaf" l ld ["pair"] spLeaf) (G : Gf K mg) :
    ∀ n : Nat, FnOk P w K mg base CX0 (n + 3) f fd ["thing", "deepest"] (spIsEx n)
  | 0 => isEx_none
  | n + 1 => ok_isEx F TO LF ⟨isExs F m bd TO LF G n, m, F.kp, bd⟩ G
end
end SH

set_option Elab.async false
set_option linter.all false
set_option maxRecDepth 100000
/-! Sets of unlike texts: set(tuple), {.. for .. in ..}, and how many stand in one. -/
namespace SHSet
open PySem PySem.Spec PyProof.Rows
/-- a set in which just these unlike texts stand -/
def TxtSet (prog : Program) (w : World) (h : Heap) (D : Addr) (xs : List Str) : Prop := h.SetOf (strKind prog w) D (fun y => decide (y ∈ xs)) xs.length
section
variable {prog : Program} {w : World} {A : Around} {D : Addr}
theorem TxtSet.keep {h k : Heap} {xs : List Str} (q : TxtSet prog w h D xs) (m : ∀ o, h.get? D = some o → k.get? D = some o) : TxtSet prog w k D xs := by
  obtain ⟨o, es, ep, tb, ho, rest⟩ := q
  exact ⟨o, es, ep, tb, m _ ho, rest⟩
/-- one more text, if it isn't there -/
def addT (xs : List Str) (y : Str) : List Str := if y ∈ xs then xs else xs ++ [y]
/-- each once -/
def dd (xs : List Str) : List Str := xs.foldl addT []
theorem dd_snoc (xs : List Str) (y : Str) : dd (xs ++ [y]) = addT (dd xs) y := by
  unfold dd
  rw [List.foldl_append]
  rfl
theorem addT_len (xs : List Str) (y : Str) : (addT xs y).length ≤ xs.length + 1 := by
  unfold addT
  split
  · omega
  · rw [List.length_append, List.length_singleton]
    omega
theorem dd_len (n : Nat) : ∀ xs : List Str, xs.length = n → (dd xs).length ≤ n := by
  induction n with
  | zero =>
    intro xs h
    rw [List.eq_nil_of_length_eq_zero h]
    exact Nat.le_refl _
  | succ n ih =>
    intro xs h
    have hne : xs ≠ [] := fun z => by rw [z] at h; cases h
    have e := (List.dropLast_concat_getLast hne).symm
    have hl : xs.dropLast.length = n := by rw [List.length_dropLast, h]; rfl
    have := ih xs.dropLast hl
    have a := addT_len (dd xs.dropLast) (xs.getLast hne)
    rw [e, dd_snoc]
    omega
theorem dd_fold : ∀ (xs acc : List Str), (acc ++ xs).Nodup → xs.foldl addT acc = acc ++ xs
  | [], acc, _ => (List.append_nil acc).symm
  | x :: r, acc, h => by
    have hx : x ∉ acc := fun m => by
      have := List.nodup_append.mp h
      exact this.2.2 x m x List.mem_cons_self rfl
    show r.foldl addT (addT acc x) = acc ++ x :: r
    have e : addT acc x = acc ++ [x] := by unfold addT; rw [if_neg hx]
    have e2 : acc ++ x :: r = (acc ++ [x]) ++ r := by rw [List.append_assoc]; rfl
    rw [e, e2]
    rw [e2] at h
    exact dd_fold r (acc ++ [x]) h
theorem dd_nd {xs : List Str} (h : xs.Nodup) : dd xs = xs := dd_fold xs [] h
theorem TxtSet.one {xs : List Str} {y : Str} {t : Tok} {s : Shared} {E : Value → Shared → Prop} {Q : Bool → Shared → Prop} (q : TxtSet prog w s.heap D xs) (few : xs.length + 1 < scanBound)
    (h : ∀ k, s.heap.SameBut D k → TxtSet prog w k D (addT xs y) → ∀ r, Q r { s with heap := k, toks := s.toks + 1 }) : wpAny (model prog w) A (setAdd D (.str y t)) Q E s := by
  unfold setAdd
  refine wpAny_holding (wpAny_bind ((strKind prog w).pyHash (k := y) (strKind_is prog w y t) ?_))
  refine wpAny_setAddHashed_of (knd := strKind prog w) (s := { s with toks := s.toks + 1 }) (strKind_is prog w y t) rfl q few fun k sb st => h k sb ?_ _
  unfold addT
  by_cases hy : y ∈ xs
  · rw [if_pos hy]
    refine SetOf_congr st (fun z => ?_) (by rw [decide_eq_true hy]; rfl)
    by_cases e : z = y
    · subst e; simp [hy]
    · simp [e]
  · rw [if_neg hy]
    refine SetOf_congr st (fun z => ?_) ?_
    · simp [List.mem_append]
    · rw [if_neg (by rw [decide_eq_false hy]; exact Bool.false_ne_true), List.length_append]
      rfl
end
section
variable {prog : Program} {w : World} {A : Around} {R : Result → Shared → Prop} {J D : Addr} {ft wt : List Addr} {Gs : Array GenState → Array GenState → Prop} {n : Nat} {Pi : Nat → Value → Prop} {Sat : Nat → Shared → Prop}
theorem texts_loop (W : WalksS prog w A.in1 J ft wt Gs n Pi Sat) (out : D ∉ ft) {xs : List Str} (len : xs.length = n) (few : n + 1 < scanBound) (val : ∀ i v, Pi i v → ∃ t, v = .str (xs.getD i Str.empty) t) :
    ∀ (m i : Nat) (s : Shared), i + m = n → Sat i s → TxtSet prog w s.heap D (dd (xs.take i)) → (∀ z, Moved (D :: wt) Gs s z → TxtSet prog w z.heap D (dd xs) → R (.ok (.ret .none)) z) →
      codeAny (model prog w) A (.builtin "set.update.loop" ⟨[.ref D, .ref J], []⟩) R s := by
  have outW : D ∉ wt := fun q => out (W.sub _ q)
  have wide : ∀ b ∈ wt, b ∈ D :: wt := fun b q => List.mem_cons_of_mem _ q
  intro m
  induction m with
  | zero =>
    intro i s him st q fin
    have ei : xs.take i = xs := List.take_of_length_le (by omega)
    rw [ei] at q
    refine codeAny_builtin PyProof.Rows.F.entry_set_update_loop (by
      rw [Around.under_plainId PyProof.Rows.F.plain_set_update_loop _]
      refine (show wpAny _ A.in1 (pyNext (.ref J) >>= _) _ _ s from wpAny_bind (W.done s _ _ (by rw [show n = i by omega]; exact st) fun z mv => ?_))
      exact (show wpAny _ A.in1 (ret Value.none) _ _ z from wpAny_pure (fin z (mv.mono wide) (q.keep fun o ho => mv.heap D o outW ho))))
  | succ m ih =>
    intro i s him st q fin
    have lt : i < xs.length := by omega
    refine codeAny_builtin PyProof.Rows.F.entry_set_update_loop (by
      rw [Around.under_plainId PyProof.Rows.F.plain_set_update_loop _]
      refine (show wpAny _ A.in1 (pyNext (.ref J) >>= _) _ _ s from wpAny_bind (W.item i s _ _ (by omega) st fun v z pv stz mv => ?_))
      obtain ⟨t, rfl⟩ := val i v pv
      have qz : TxtSet prog w z.heap D (dd (xs.take i)) := q.keep fun o ho => mv.heap D o outW ho
      have here : xs.getD i Str.empty = xs[i] := by rw [List.getD_eq_getElem?_getD, List.getElem?_eq_getElem lt]; rfl
      have more : xs.take (i + 1) = xs.take i ++ [xs.getD i Str.empty] := by rw [here, List.take_add_one, List.getElem?_eq_getElem lt]; rfl
      refine (show wpAny _ A.in1 (holding [Value.str (xs.getD i Str.empty) t] (setAdd D (.str (xs.getD i Str.empty) t)) >>= _) _ _ z from wpAny_bind (wpAny_holding ?_))
      refine qz.one (by have := dd_len i (xs.take i) (by rw [List.length_take]; omega); omega) fun k sb qk r => ?_
      rw [← dd_snoc, ← more] at qk
      refine wpAny_pure ⟨plainId_quiet PyProof.Rows.F.plain_set_update_loop _, ih (i + 1) _ (by omega) (W.frame _ z _ _ stz (Nat.le_succ _) fun b hb o e => ?_) qk fun u mu qu => ?_⟩
      · exact (sb.2 b (fun q : b = D => out (q ▸ hb))).trans e
      · refine fin u (Moved.trans W.gtrans ((mv.mono wide).then_heap (Nat.le_succ _) fun b o hb e => ?_) mu) qu
        exact (sb.2 b (fun q : b = D => hb (by rw [q]; exact List.mem_cons_self))).trans e)
end
section
variable {prog : Program} {w : World} {A : Around} {E : Value → Shared → Prop} {s : Shared}
/-- an empty set, just made -/
abbrev bareSet (led : Bool) : Obj := { cls := .type "set", dict := none, data := .set #[] 0 (.fresh 0 0 led) }
theorem txt0 {h : Heap} {D : Addr} {led : Bool} (g : h.get? D = some (bareSet led)) : TxtSet prog w h D [] :=
  SetOf_congr ((setObjOf_fresh (knd := strKind prog w) led).setOf g (by decide)) (fun _ => rfl) rfl
/-- set.__init__ over a tuple of texts -/
theorem init_texts {D l : Addr} {items : Array Value} {xs : List Str} {led : Bool} {Q : Value → Shared → Prop} (quiet : A.handled = none) (hl : s.heap.IsTuple l items) (hx : StrsAre items.toList xs) (few : xs.length + 1 < scanBound) (hD : D < s.heap.objs.size) (hDl : l < D) (g : s.heap.get? D = some (bareSet led))
    (h : ∀ (k : Heap) (tk : Nat), TxtSet prog w k D (dd xs) → (∀ b o, b < D → s.heap.get? b = some o → k.get? b = some o) → Q .none { s with heap := k, toks := tk }) :
    codeAny (model prog w) A (.call (.builtin "set.__init__") ⟨[.ref D, .ref l], []⟩) (wants Q E) s := by
  have ty : s.TypeIs (.ref D) "set" := ⟨_, g, rfl⟩
  refine codeAny_call_builtin PySem.F.called_set.init.plain PySem.F.entry_set_init (check_set_init_1 ty ?_)
  obtain ⟨⟨c1, c2, c3, c4⟩, at_l, k1, k2, k3⟩ := hl
  simp only at k1 k3
  subst k1
  subst k3
  have f1 := PySem.F.sub_tuple_set
  have f2 := PySem.F.sub_tuple_frozenset
  have f3 : (Value.type "tuple" == Value.type "dict") = false := by decide
  have whole : s.heap.IsTuple l items := ⟨_, at_l, rfl, k2, rfl⟩
  unfold Builtin.«set.__init__» noKeywords Builtin.Frozenset.updateFrom
  generalize hit : pyIter = PI
  wp_walk
  subst hit
  refine wpAny_pyIter_tuple whole (wpAny_bind (wpAny_runValue ?_))
  have calm : A.in1.in1.handled = none := by simp [quiet]
  have lJ : l ≠ s.heap.objs.size := Nat.ne_of_lt (Nat.lt_trans hDl hD)
  have hsz : xs.length = items.size := by rw [← StrsAre.len_eq hx, Array.length_toList]
  refine texts_loop (prog := prog) (w := w) (A := A.in1) ((Walks.tuple calm _ l lJ items).toS) (D := D) ?_ hsz (by omega) (fun i v hv => SS.strs_at hx i v (by rw [Array.getElem?_toList]; exact hv)) items.size 0 _ (by omega) ?_ ?_ fun z mv qz => ?_
  · simp only [List.mem_cons, List.mem_singleton, List.not_mem_nil, or_false, not_or]
    exact ⟨Nat.ne_of_lt hD, Nat.ne_of_gt hDl⟩
  · exact ⟨⟨_, Heap.get?_push_size _ rfl, rfl, rfl⟩, whole.push _⟩
  · exact txt0 (led := led) (Heap.get?_push_of_some _ g)
  · obtain ⟨hz, gz, dz, tz, oz⟩ := z
    obtain rfl : gz = s.gens := mv.gens
    obtain rfl : dz = s.drawn := mv.drawn
    obtain rfl : oz = s.os := mv.os
    refine wpAny_pure (wpAny_pure (h hz tz qz fun b o hb e => mv.heap b o ?_ (Heap.get?_push_of_some _ e)))
    simp only [List.mem_cons, List.mem_singleton, List.not_mem_nil, or_false, not_or]
    exact ⟨Nat.ne_of_lt hb, Nat.ne_of_lt (Nat.lt_trans hb hD)⟩
/-- set(tuple of unlike texts) -/
theorem call_texts {l : Addr} {items : Array Value} {xs : List Str} {Q : Value → Shared → Prop} (quiet : A.handled = none) (hl : s.heap.IsTuple l items) (hx : StrsAre items.toList xs) (few : xs.length + 1 < scanBound)
    (h : ∀ (k : Heap) (tk : Nat), TxtSet prog w k s.heap.objs.size (dd xs) → (∀ b o, b < s.heap.objs.size → s.heap.get? b = some o → k.get? b = some o) → Q (.ref s.heap.objs.size) { s with heap := k, toks := tk }) :
    wpAny (model prog w) A (call (.type "set") [.ref l]) Q E s := by
  obtain ⟨c, tl, f1⟩ := PySem.F.called_set.mro
  have f2 := PySem.F.called_set.made
  have f3 := PySem.F.called_set.sub
  refine wpAny_call (codeAny_of_tree (show wpAny _ _ (callAny (.type "set") _) _ _ _ from wpAny_pure ⟨Code.quiet_builtin _ (by decide +kernel), codeAny_builtin PySem.F.entry_type_call ?_⟩))
  rw [Around.under_plain (weight_type_call_type "set" [.ref l] []) rfl]
  have f4 := PySem.F.called_set.notType
  have f5 := PySem.F.called_set.canCreate
  have f6 := PySem.F.typeCall_set_1 (.ref l)
  repeat (any_goals (first | assumption | wp_step))
  refine codeAny_mono (code_set_new_1 (.ref l) (E := E) (Q₁ := fun o z => ∃ led : Bool, o = .ref s.heap.objs.size ∧ z = { s with heap := s.heap.push (bareSet led) }) fun led => ⟨led, rfl, rfl⟩) fun r z hr => ?_
  cases r with
  | error e => exact hr
  | ok fl =>
    cases fl with
    | ret obj =>
      obtain ⟨led, rfl, rfl⟩ := hr
      have g : (s.heap.push (bareSet led)).get? s.heap.objs.size = some (bareSet led) := Heap.get?_push_size _ rfl
      have f7 : Shared.TypeIs { s with heap := s.heap.push (bareSet led) } (.ref s.heap.objs.size) "set" := ⟨_, g, rfl⟩
      have f8 := PySem.F.called_set.init.lookup
      have f9 := PySem.F.called_set.init.bind (.ref s.heap.objs.size)
      repeat (any_goals (first | assumption | wp_step))
      have hlt : l < s.heap.objs.size := by
        obtain ⟨o, ho, _⟩ := hl
        exact Heap.lt_size ho
      refine codeAny_mono (init_texts (prog := prog) (w := w) (E := E) (Q := fun r z => r = .none ∧ ∃ k tk, z = { s with heap := k, toks := tk } ∧ TxtSet prog w k s.heap.objs.size (dd xs) ∧ ∀ b o, b < s.heap.objs.size → s.heap.get? b = some o → k.get? b = some o) (led := led) (by simp [quiet]) (hl.push _) hx few (by rw [Heap.size_push]; exact Nat.lt_succ_self _) hlt g fun k tk q kp => ⟨rfl, k, tk, rfl, q, fun b o hb e => kp b o hb (Heap.get?_push_of_some _ e)⟩) fun r z hr => ?_
      cases r with
      | error e => exact hr
      | ok fl =>
        cases fl with
        | ret r =>
          obtain ⟨rfl, k, tk, rfl, q, kp⟩ := hr
          repeat (any_goals (first | assumption | wp_step))
          exact h k tk q kp
        | _ => exact hr.elim
    | _ => exact hr.elim
end
end SHSet
namespace SH
open PySem PySem.Spec PyProof.Rows L2 SHSet
/-- len(set(t)), t a tuple of texts -/
def tLenTxt (K : PySem.W.Frag) (ta : TE) : TE := fun σ H Q => ta σ H fun x H1 => ∃ (l : Addr) (xs : List Str), x = .ref l ∧ SqT K H1 l (xs.map V.str) ∧ xs.length ≤ 1000 ∧ Q (.int ((dd xs).length : Nat)) H1
section
variable {X : Cx}
theorem pe_lenTxt {a : Expr} {ta : TE} {p p2 q pos : Pos} (hg : Gl X "len") (ml : X.mg "len" = none) (hg2 : Gl X "set") (ms : X.mg "set" = none) (ha : PE X a ta) (quiet : X.calm = true := by rfl)
    (plain : starEach [a] X.env = (false, eval a X.env) :: starEach [] X.env := by rfl) : PE X (.Call (.Name "len" p) [.Call (.Name "set" p2) [a] [] q] [] pos) (tLenTxt X.K ta) := by
  refine ⟨fun pins s σ H Q I h => Call_ (ld_blt I hg ml boot_len (callWith_builtin1 (args_cons (Call_ (ld_blt I hg2 ms boot_set ?_)) rfl) rfl rfl))⟩
  refine callWith_type1 (args_cons (thn (ha.run pins s σ H _ I h) fun v z ⟨x, H1, J, rx, l, xs, ex, tq, few, fin⟩ => args_nil ?_) plain) plain rfl
  subst ex
  cases rx
  obtain ⟨its, rv, tup, _⟩ := J.tuple tq
  have small : (dd xs).length ≤ 1000 := Nat.le_trans (dd_len xs.length xs rfl) few
  refine call_texts (J.ok.hd quiet) tup (xs := xs) (by simpa using strsAre_of rv) (by unfold scanBound; omega) fun k tk qs kp => args_nil ?_
  obtain ⟨o, es, ep, tb, h1, h2, h3, _, _, _, h4, h5⟩ := qs
  have J2 : Inv X pins σ H1 { z with heap := k, toks := tk } := J.kept fun b o e => kp b o (Heap.lt_size e) e
  exact call_len_set h1 h2 h3 h4 (by rw [h5]; omega) ⟨.int ((dd xs).length : Nat), H1, J2.tok _, ⟨_, by rw [h5]⟩, fin⟩
end
end SH

set_option Elab.async false
set_option linter.all false
set_option maxRecDepth 100000
set_option maxHeartbeats 2000000
/-! {e for x in xs}, e a text. -/
namespace SH
open PySem PySem.Spec PyProof.Rows L2 SHSet
/-- the set of texts at D -/
def TxtO (P : Program) (w : World) (D : Addr) (xs : List Str) : HO := .ext fun h => TxtSet P w h D xs
theorem txtO_ok {P : Program} {w : World} {H : Hp} {h : Heap} {D : Addr} {xs : List Str} (q : TxtSet P w h D xs) : ObjOk P w H h D (TxtO P w D xs) := by
  have q' := q
  obtain ⟨o, _, _, _, ho, _⟩ := q'
  exact ⟨q, ⟨o, ho⟩, fun h1 h2 p k => TxtSet.keep p k⟩
section
variable {X : Cx}
theorem add_txt {pins : List (Addr × Obj)} {σ : L2.St} {H : Hp} {s : Shared} {E : Value → Shared → Prop} {D : Addr} {xs : List Str} {z : Str} {t : Tok} {Q : Value → Shared → Prop} (I : Inv X pins σ H s) (hD : H D = some (TxtO X.prog X.w D xs)) (few : xs.length + 1 < scanBound)
    (h : ∀ s', Inv X pins σ (upd H D (TxtO X.prog X.w D (addT xs z))) s' → Q .none s') : wpAny (model X.prog X.w) X.A (call (.builtin "set.add") [.ref D, .str z t]) Q E s := by
  have q : TxtSet X.prog X.w s.heap D xs := (I.hok D _ hD).1
  refine call_set_add (knd := strKind X.prog X.w) (k := z) (strKind_is X.prog X.w z t) rfl q few fun k sb st => ?_
  have nw : TxtSet X.prog X.w k D (addT xs z) := by
    unfold addT
    by_cases hy : z ∈ xs
    · rw [if_pos hy]
      refine SetOf_congr st (fun y => ?_) (by rw [decide_eq_true hy]; rfl)
      by_cases e : y = z
      · subst e; simp [hy]
      · simp [e]
    · rw [if_neg hy]
      refine SetOf_congr st (fun y => ?_) ?_
      · simp [List.mem_append]
      · rw [if_neg (by rw [decide_eq_false hy]; exact Bool.false_ne_true), List.length_append]
        rfl
  have ex : ∃ u, k.get? D = some u := by
    have n2 := nw
    obtain ⟨o, _, _, _, ho, _⟩ := n2
    exact ⟨o, ho⟩
  exact h _ (I.write (e := D) (t' := s.toks + 1) (by rw [hD]; trivial) (.inl rfl) (fun b u hb hu => (sb.2 b hb).trans hu) ex (txtO_ok nw))
/-- the readings of {e for x in xs}: D the new set -/
def tTxc (P : Program) (w : World) (wi : TI) (g : TG) (te : TE) (vs : List Nat) : TE := fun σ H Q => wi σ H fun J H1 => ∀ D, H1 D = none → ∃ W : Nat → Nat → Hp → Prop, (∃ m, W 0 m (upd H1 D (TxtO P w D []))) ∧ ∀ i m H, W i m H →
  (J.stop i H ∧ Q (.ref D) H) ∨ (J.go i H ∧ ∃ Nx : Hp → Prop, (∀ H', Nx H' → ∃ m', m' < m ∧ W (i + 1) m' H') ∧ ∀ x H', J.yld i H x H' → g x (wipe σ vs) H' fun σ2 H2 => wipe σ2 vs = wipe σ vs ∧
    te σ2 H2 fun y H4 => ∃ (z : Str) (xs : List Str), y = .str z ∧ H4 D = some (TxtO P w D xs) ∧ xs.length + 1 < scanBound ∧ Nx (upd H4 D (TxtO P w D (addT xs z))))
abbrev freshSet (w : World) : Obj := { cls := .type "set", dict := none, data := .set #[] 0 (.fresh 0 0 (!w.params.followText "set-order")) }
theorem pe_txc {elt tg iter : Expr} {scope : Scope} {own : List (PySem.Str × Nat)} {pos : Pos} {wi : TI} {g : TG} {te : TE} (quiet : X.calm = true) (ndN : X.N.Nodup) (hi : PI X tg iter wi) (ok : BlkOk X.N X.env.scope scope own)
    (hg : ∀ (s : Shared) (H : Hp) (C : Addr) (cl : List (PySem.Str × Addr)) (fp : List Addr), PG (X.blk s H scope (compEnvC scope cl C X.env) fp) tg g)
    (he : ∀ (s : Shared) (H : Hp) (C : Addr) (cl : List (PySem.Str × Addr)) (fp : List Addr), PE (X.blk s H scope (compEnvC scope cl C X.env) fp) elt te) (fold : ∀ x, foldedSetIterable iter X.env x = pure x := by intro _; rfl) :
    PE X (.SetComp elt [⟨tg, iter, [], 0⟩] scope pos) (tTxc X.prog X.w wi g te (own.map (·.2))) := by
  refine ⟨fun pins s σ H Q I h => ?_⟩
  rw [PpSet.eval_SetComp]
  have fr : ∀ y ∈ scope.names, y.2 = .free → ∃ c, X.env.cells.lookup y.1 = some c := fun y hy e => (ok.free y hy e).elim (fun k => I.ok.has _ (.inl k)) fun k => I.ok.has _ (.inr k)
  refine wpAny_comprehension_free (use := none) rfl fold (closure_ok fr) ok.kind (fun y hy e => by rw [ok.uniq y hy, e]) (thn (hi.run pins s σ H _ I h) fun _ s1 hx => thn hx fun _ s2 ⟨it, fp, tn, J, H2, e, I2, T, st2, f2, q⟩ => ?_)
  subst e
  refine PpSet.newSet_ok (newEnv_comp ?_)
  generalize hD : s2.heap.objs.size = D
  obtain ⟨W, ⟨m0, w0⟩, turn⟩ := q D (I2.hok.fresh (Nat.le_of_eq hD))
  generalize ez : ({ s2 with heap := s2.heap.push (freshSet X.w) } : Shared) = sz
  have I3 : Inv X pins σ (upd H2 D (TxtO X.prog X.w D [])) sz := by
    subst ez
    refine I2.laid (t' := s2.toks) (fun b o e => Heap.get?_push_of_some _ e) (Nat.le_of_eq hD) ?_
    subst hD
    exact txtO_ok (txt0 (Heap.get?_push_size _ rfl))
  have hh : sz.heap = s2.heap.push (freshSet X.w) := by subst ez; rfl
  have below : ∀ b ∈ fp, b < s2.heap.objs.size := fun b hb => (T.obj _ _ st2 b hb).elim fun o ho => Heap.lt_size ho.1
  have f3 : ∀ b ∈ fp, FpOk X pins (upd H2 D (TxtO X.prog X.w D [])) b ∧ b < sz.heap.objs.size := fun b hb => by
    refine ⟨⟨?_, (f2 b hb).2⟩, by rw [hh, Heap.size_push]; exact Nat.lt_succ_of_lt (below b hb)⟩
    rw [upd_ne (fun z => Nat.lt_irrefl _ (hD ▸ z ▸ below b hb))]
    exact (f2 b hb).1
  have st3 : tn 0 sz.heap := T.keep _ _ _ st2 fun b _ o e => by rw [hh]; exact Heap.get?_push_of_some _ e
  have I4 := block_start I3 ok ndN f3
  have pg := hg sz (upd H2 D (TxtO X.prog X.w D [])) sz.heap.objs.size (cellsFrom (sz.heap.objs.size + 1) scope.names (cloFrom X.env.cells scope.names [])) fp
  have pe := he sz (upd H2 D (TxtO X.prog X.w D [])) sz.heap.objs.size (cellsFrom (sz.heap.objs.size + 1) scope.names (cloFrom X.env.cells scope.names [])) fp
  show codeAny _ _ (.compStart (.SetComp elt [⟨tg, iter, [], 0⟩] scope pos) 0 (.ref it) (.ref D) (compEnvC scope (cellsFrom (sz.heap.objs.size + 1) scope.names (cloFrom X.env.cells scope.names [])) sz.heap.objs.size X.env)) (compPost (model X.prog X.w) X.A X.xe none _ (.ref D) sz.heap.objs.size) { sz with heap := pushCells (sz.heap.push { cls := .type "dict", data := .dict #[] }) scope.names }
  have nfp : ∀ b ∈ fp, (upd H2 D (TxtO X.prog X.w D [])) b = none := fun b hb => (f3 b hb).1.1
  generalize ec : compEnvC scope (cellsFrom (sz.heap.objs.size + 1) scope.names (cloFrom X.env.cells scope.names [])) sz.heap.objs.size X.env = ce at I4 pg pe ⊢
  have cl : ce.locals = sz.heap.objs.size := by subst ec; rfl
  generalize upd H2 D (TxtO X.prog X.w D []) = H3 at I3 I4 pg pe w0 nfp f3
  generalize e4 : ({ sz with heap := pushCells (sz.heap.push { cls := .type "dict", data := .dict #[] }) scope.names } : Shared) = s4 at I4 ⊢
  have st4 : tn 0 s4.heap := T.keep _ _ _ st3 fun b _ o e => by rw [← e4]; exact pushCells_keeps _ _ _ _ (Heap.get?_push_of_some _ e)
  have stat : ∀ {σ' : L2.St} {H' : Hp} {s' : Shared}, Inv (X.blk sz H3 scope ce fp) [] σ' H' s' → (∀ b ∈ fp, H' b = none) → ∀ b ∈ fp, FpOk (X.blk sz H3 scope ce fp) [] H' b := fun {_ _ _} K hn b hb =>
    ⟨hn b hb, (K.ok.exf b hb).1, K.ok.exfs b hb, .inl hb, fun x c e => (K.ok.exf b hb).2 x c e, fun p hp => absurd (show p ∈ ([] : List (Addr × Obj)) ++ [] from hp) (by simp)⟩
  have loop : codeAny (model X.prog X.w) X.A (.compLoop (.SetComp elt [⟨tg, iter, [], 0⟩] scope pos) 0 (.ref it) (.ref D) ce) (compPost (model X.prog X.w) X.A X.xe none (EP X pins σ Q) (.ref D) sz.heap.objs.size) s4 := by
    refine PpSet.compLoopS_any (fun n z => ∃ i H', Inv (X.blk sz H3 scope ce fp) [] (wipe σ (own.map (·.2))) H' z ∧ tn i z.heap ∧ (∀ b ∈ fp, H' b = none) ∧ W i n H') ?_ m0 ⟨0, H3, I4, st4, nfp, w0⟩
    rintro n s5 ⟨i, H5, I5, st5, n5, w5⟩
    rcases turn i n H5 w5 with ⟨stop, qq⟩ | ⟨go, Nx, hNx, step⟩
    · refine thnF (T.done (X.blk sz H3 scope ce fp) rfl rfl rfl quiet i [] s5 _ H5 (fun _ _ => False) I5 (stat I5 n5) st5 stop) fun r s6 ⟨hr, I6⟩ => ?_
      subst hr
      have I7 : Inv X pins σ H5 s6 := I3.call' (ch := fp) I6.os I6.base I6.hok I6.bare fun b hb => have u := (f3 b hb).1.2; ⟨u.2.2.1, u.1, u.2.2.2.1, u.2.2.2.2⟩
      have nC : H5 sz.heap.objs.size = none := cl ▸ (show H5 ce.locals = none from I6.free)
      obtain ⟨m, hn, _⟩ := I6.loc
      have hn' : s6.heap.Ns sz.heap.objs.size m := cl ▸ (show s6.heap.Ns ce.locals m from hn)
      obtain ⟨u0, u1, u2, u3, u4, u5⟩ := I3.fpOk (Nat.le_refl _) nC
      refine ⟨m, hn', fun k sb => ⟨.ref D, H5, I7.turned (t' := s6.toks) (fun b o hb e => (sb.2 b hb).trans e) u0 u1 u3 u4 u5, rfl, qq⟩⟩
    · refine thnF (T.item (X.blk sz H3 scope ce fp) rfl rfl rfl quiet i [] s5 _ H5 (fun _ _ => False) I5 (stat I5 n5) st5 go) fun r s6 ⟨u, hr, h6⟩ => ?_
      subst hr
      refine thnF h6 fun _ s7 ⟨x, H7, I7, r7, y7, st7, n7⟩ => ?_
      refine thnF (pg.run _ s7 _ H7 x u _ (I7.pinned (stat I7 n7) (T.obj _ _ st7)) r7 (step x H7 y7)) fun _ s8 ⟨σ8, H8, I8, hw8, q8⟩ => ?_
      refine thnF ((pts_nil (X := X.blk sz H3 scope ce fp)).run _ s8 σ8 H8 _ I8 (show tYes σ8 H8 (fun b K => b = true ∧ te σ8 K _) from ⟨rfl, q8⟩)) fun b s9 ⟨H9, I9, eb, q9⟩ => ?_
      subst eb
      simp only [if_true]
      refine thnF (pe.run _ s9 σ8 H9 _ I9 q9) fun z s10 ⟨yv, H10, I10, r10, zt, xs, ey, hD10, few, nx⟩ => ?_
      subst ey
      obtain ⟨tk, rfl⟩ := (show ∃ tk, z = Value.str zt tk from r10)
      refine add_txt (X := X.blk sz H3 scope ce fp) I10 hD10 few fun s11 I11 => ?_
      obtain ⟨m', hm, w'⟩ := hNx _ nx
      have pin : ∀ b ∈ fp, ∀ o, s7.heap.get? b = some o → s11.heap.get? b = some o ∧ (upd H10 D (TxtO X.prog X.w D (addT xs zt))) b = none := fun b hb o e =>
        have v := I11.pin (b, o) (List.mem_append_right _ (List.mem_append_right _ (mem_pinsAt hb e)))
        ⟨v.1, v.2.1⟩
      refine ⟨m', hm, i + 1, _, (I11.unpinned (pins := [])).weak (by rw [← hw8, wipe_length]) (fun j v e => ?_), T.keep _ _ _ st7 fun b hb o e => (pin b hb o e).1, fun b hb => ?_, w'⟩
      · rw [← hw8] at e
        exact (wipe_some e).1
      · exact (T.obj _ _ st7 b hb).elim fun o ho => (pin b hb o ho.1).2
  exact PpSet.codeAny_compStart_set loop (T.self X.A 0 _ _ _ st4 loop)
/-- len of such a set -/
theorem call_lenTxt : CallR X (.builtin "len") (fun xs H Q => ∃ (D : Addr) (l : List Str), xs = [.ref D] ∧ H D = some (TxtO X.prog X.w D l) ∧ l.length ≤ 1000 ∧ Q (.int (l.length : Nat)) H) := by
  intro pins s σ H xs us Q I r h
  obtain ⟨D, l, rfl, hD, few, q⟩ := h
  obtain ⟨u, rfl, ru⟩ := vals1 r
  cases ru
  obtain ⟨o, es, ep, tb, h1, h2, h3, _, _, _, h4, h5⟩ := (I.hok D _ hD).1
  exact call_len_set h1 h2 h3 h4 (by rw [h5]; omega) ⟨.int (l.length : Nat), H, I.tok _, ⟨_, by rw [h5]⟩, q⟩
end
end SH

set_option Elab.async false
set_option linter.all false
set_option maxRecDepth 100000
namespace SH
open PySem PySem.Spec PyProof.Rows L2
section
variable {X : Cx}
/-- y = {k: v for x in xs} -/
theorem ps_setDc {i : Nat} {y : PySem.Str} {py : Pos} {kx vx tg iter : Expr} {scope : Scope} {own : List (PySem.Str × Nat)} {pos spos : Pos} {wi : TI} {g : TG} {tk tv : TE} (quiet : X.calm = true) (ndN : X.N.Nodup) (hy : X.N[i]? = some y) (yl : X.env.scope.names.lookup y = some .local)
    (swap : swapsWith (.DictComp kx vx [⟨tg, iter, [], 0⟩] scope pos) (some (.Name y py)) spos.line X.env = pure true) (hi : PI X tg iter wi) (ok : BlkOk X.N X.env.scope scope own)
    (hg : ∀ (s : Shared) (H : Hp) (C : Addr) (cl : List (PySem.Str × Addr)) (fp : List Addr), PG (X.blk s H scope (compEnvC scope cl C X.env) fp) tg g)
    (hk : ∀ (s : Shared) (H : Hp) (C : Addr) (cl : List (PySem.Str × Addr)) (fp : List Addr), PE (X.blk s H scope (compEnvC scope cl C X.env) fp) kx tk)
    (hv : ∀ (s : Shared) (H : Hp) (C : Addr) (cl : List (PySem.Str × Addr)) (fp : List Addr), PE (X.blk s H scope (compEnvC scope cl C X.env) fp) vx tv) (fold : ∀ x, foldedSetIterable iter X.env x = pure x := by intro _; rfl) :
    PS X (.Assign [.Name y py] (.DictComp kx vx [⟨tg, iter, [], 0⟩] scope pos) spos) (tAsg (tDc wi g tYes tk tv (own.map (·.2))) (gName i)) := by
  refine ⟨fun pins s σ H D I h => ?_⟩
  rw [exec_Assign_Name_used _ _ _ _ swap]
  refine wpAny_bind (wpAny_standAt (wpAny_bind (show wpAny _ X.A (do let _ ← comprehension (.DictComp kx vx [⟨tg, iter, [], 0⟩] scope pos) scope X.env (firstIterPos [⟨tg, iter, [], 0⟩] pos) newDict false (eval iter X.env) (some (assign (.Name y py) X.env))) _ _ s from ?_)))
  refine wpAny_bind (thn (dc_core (Q := fun x H1 => gName i x σ H1 D.nx) (Qf := fun _ z => SP X pins D .next z) quiet ndN I hi ok hg (fun _ _ _ _ _ => pts_nil) hk hv fold h fun L C z m H' J q hn f => ?_) fun _ z hq => wpAny_pure (wpAny_pure hq))
  refine (show wpAny _ _ (assign (.Name y py) X.env (.ref L)) _ _ _ from wpAny_assign_Name (store_ok2 (v := V.ref L) J ndN hy (.inl yl) rfl (fun u J2 ⟨a, sb, ha⟩ => ?_) (.inr yl)))
  have other : C ≠ a := ha.elim (fun e => e ▸ f.2.1) fun e k => f.2.2.2.2.1 y a e k.symm
  exact ⟨m, hn.sameBut sb other, fun k sk => ⟨_, H', J2.turned (t' := u.toks) (fun b o hb e => (sk.2 b hb).trans e) f.1 f.2.1 f.2.2.2.1 f.2.2.2.2.1 f.2.2.2.2.2, q⟩⟩
theorem sw_dict {kx vx : Expr} {gs : List Comprehension} {scope : Scope} {pos py : Pos} {y : PySem.Str} {l : Nat} {env : Env} (hk : env.scope.kind = .function) (hy : env.scope.names.lookup y = some .local) (hl : (py.line == pos.line) = true)
    (ha : (scope.names.any fun (n, k) => n == y && (k == .local || k == .cell)) = false) : swapsWith (.DictComp kx vx gs scope pos) (some (.Name y py)) l env = pure true := by
  have k1 : env.kindOf y = some .local := hy
  have k2 : env.blockKind = .function := by unfold Env.blockKind; rw [hk]; rfl
  unfold swapsWith
  simp only [k2, k1, ha, Expr.pos, hl]
  rfl
/-- str(x) by an own __str__ -/
def rStrOwn (C : Addr) (sp : Sp) : List V → Hp → VK → Prop := fun xs H Q => ∃ (a dx : Addr) (fs : List (PySem.Str × V)), xs = [V.ref a] ∧ H a = some (.ins C dx fs) ∧ sp [.ref a] H (fun v H' => ∃ z, v = .str z ∧ Q v H') E0
theorem call_strOwn {C g : Addr} {gd : FuncData} {n : Nat} {sp : Sp} (hs : PySem.W.findIn X.K (.ref C) "__str__" = some (some (.ref g))) (hf : PySem.W.isFn X.K (.ref g) = true) (F : FnOk X.prog X.w X.K X.mg X.base CX0 n g gd ["self"] sp) (hb : Binds X.K gd ["self"] []) (hr : Room (n + 2) X.A) : CallR X (.type "str") (rStrOwn C sp) := by
  intro pins s σ H xs us Q I r h
  obtain ⟨a, dx, fs, rfl, ha, q⟩ := h
  obtain ⟨u, rfl, ru⟩ := vals1 r
  cases ru
  obtain ⟨mA, om, _⟩ := ins_get I.hok ha
  obtain ⟨od, J, _⟩ := om.look
  have room : Room n X.A.in1.in1 := (show Room (n + 1) X.A.in1 from Room.in1 hr).in1
  have hu : X.A.in1.in1.units < cLine := by have := room.un; omega
  have rv : Vals [V.ref a] [Value.ref a] := .cons rfl .nil
  refine PySem.W.kso_call hu I.kIn J hs hf (wpAny_call (codeAny_mono (F.run X.A.in1.in1 X.stack s H ⟨[.ref a], []⟩ [.ref a] [.ref a] _ E0 room I.env0.in1.in1 (hb s [.ref a] I.kIn rfl) rv q) fun r z hq => ?_))
  cases r with
  | error e => exact hq.elim
  | ok fl =>
    cases fl with
    | ret v =>
      obtain ⟨y, H', J2, ry, t, ey, fin⟩ := I.after hq
      subst ey
      obtain ⟨tk, rfl⟩ := (show ∃ tk, v = Value.str t tk from ry)
      exact ⟨.str t, H', J2, ⟨tk, rfl⟩, fin⟩
    | _ => exact False.elim hq
end
end SH

set_option Elab.async false
set_option linter.all false
set_option maxRecDepth 100000
namespace SW
open PySem PySem.SeqAt PySem.Spec PyProof.Rows
open AutoSeq1 (wpAny_loadPart')
open MeetsSeq MeetsSeq2 MeetsSeq3 SeqRoads2
section
variable {M : Model} {prog : Program} {w : World} {A : Around} {E : Value → Shared → Prop} {s : Shared} {K : PySem.W.Frag} {x C f : Addr} {ox : Obj} {od : Option Obj} {b tb : Value}
/-- the != that every class has, bound -/
theorem bound_ne {args : List Value} {Q : Option Value → Shared → Prop} (KX : K.In s.heap) (J : PySem.W.InstAt s.heap x ox C od) (hN : PySem.W.findIn K (.ref C) "__ne__" = some (some (.builtin "object.__ne__")))
    (h : wpAny M A (call (.builtin "object.__ne__") (.ref x :: args)) (fun v => Q (some v)) E s) : wpAny M A (callSpecialIfBound? (.ref x) "__ne__" args) Q E s := by
  simp only [bindSpecialIfBound?, callSpecialIfBound?]
  refine wpAny_holding (wpAny_bind (wpAny_bind (wpAny_bind (J.type.here ((PySem.W.looks_findIn KX hN).here (wpAny_bind (wpAny_askSetting (wpAny_ite ?_))))))))
  have last : wpAny M A (call (.builtin "object.__ne__") ([.ref x] ++ args) >>= fun v => pure (some v)) Q E s := wpAny_bind (wpAny_mono h (fun _ _ z => wpAny_pure z) fun _ _ z => z)
  split
  · exact wpAny_bind (wpAny_of_eq (F.cmp_object.ne.bind _) (wpAny_pure (by exact last)))
  · exact wpAny_tryCatch (wpAny_bind (wpAny_of_eq (F.cmp_object.ne.bind _) (wpAny_pure (by exact last))))
theorem ne_entry {Q : Fin → Shared → Prop} (KX : K.In s.heap) (J : PySem.W.InstAt s.heap x ox C od) (hE : PySem.W.findIn K (.ref C) "__eq__" = some (some (.ref f))) (hf : PySem.W.isFn K (.ref f) = true) (hu : A.units < cLine)
    (hc : wpAny M A (call (.ref f) [.ref x, b]) (fun v s' => ∃ r, v = .bool r ∧ Q (.done (.ret (.bool (!r)))) s') E s) : wpAny M A (Builtin.«object.__ne__» ⟨[.ref x, b], []⟩) Q E s := by
  unfold Builtin.«object.__ne__»
  repeat (first
    | with_reducible refine wpAny_cRoomFor hu ?_
    | (refine wpAny_bind (m := callSpecialIfBound? (.ref x) (Str.ofString "__eq__") [b]) (PySem.W.ifBound_K KX J hE hf (wpAny_mono hc (fun r s' z => by
          obtain ⟨t, rfl, q⟩ := z
          repeat (first | exact q | exact wpAny_pure q | exact wpAny_truthy_bool q | (refine wpAny_bind (m := truthy (.bool _)) (wpAny_truthy_bool ?_)) | wp_step)) fun _ _ z => z)))
    | wp_step)
theorem rc_ne {Q : Value → Shared → Prop} (hu : A.units + 1 < cLine) (KX : K.In s.heap) (J : PySem.W.InstAt s.heap x ox C od) (hb : PySem.W.Looks (model prog w) s.heap (typeOf b) tb) (hn : PySem.W.notFirst K C tb = true)
    (hN : PySem.W.findIn K (.ref C) "__ne__" = some (some (.builtin "object.__ne__"))) (hE : PySem.W.findIn K (.ref C) "__eq__" = some (some (.ref f))) (hf : PySem.W.isFn K (.ref f) = true) (hm : PySem.W.mroIn K C (.type "object") = some true)
    (hc : wpAny (model prog w) A.in1 (call (.ref f) [.ref x, b]) (fun v s' => ∃ r, v = .bool r ∧ Q (.bool (!r)) s') E s) : wpAny (model prog w) A (richCompare .NotEq (.ref x) b) Q E s := by
  have one : wpAny (model prog w) A (tryCompare (.ref x) "__ne__" b) (fun r s' => ∃ v, r = some v ∧ Q v s') E s := by
    unfold tryCompare
    refine wpAny_bind (bound_ne KX J hN (wpAny_call (codeAny_call_builtin F.cmp_object.ne.plain F.cmpEntry_ne (PySem.W.check_slot F.cmpKind_ne F.cmpSplit_ne (J.type.andThen (PySem.W.looks_mroIn KX hm)) (F.cmpArgs_ne _ _)
      (ne_entry (A := A.in1) KX J hE hf hu (wpAny_mono hc (fun v s' z => ?_) fun _ _ z => z))))))
    obtain ⟨r, rfl, q⟩ := z
    exact ⟨r, rfl, wpAny_pure ⟨_, rfl, q⟩⟩
  unfold richCompare
  simp only [oneThing_ref, cmpInfo_NotEq]
  refine wpAny_holding (wpAny_bind (wpAny_cRoomFor (by omega) (wpAny_bind (J.type.here (wpAny_bind (hb.here ?_))))))
  split
  · rename_i q
    have e : PySem.W.subIn K tb (.ref C) = some false := by
      rcases Bool.or_eq_true_iff.mp hn with e | e
      · rw [beq_iff_eq.mp e] at q
        simp at q
      · exact beq_iff_eq.mp e
    refine wpAny_bind ((PySem.W.looks_subIn KX e).here ?_)
    simp only [Bool.false_eq_true, if_false]
    refine wpAny_bind (wpAny_mono one (fun r s' z => ?_) fun _ _ z => z)
    obtain ⟨v, rfl, k⟩ := z
    exact wpAny_pure k
  · refine wpAny_bind (wpAny_pure ?_)
    simp only [Bool.false_eq_true, if_false]
    refine wpAny_bind (wpAny_mono one (fun r s' z => ?_) fun _ _ z => z)
    obtain ⟨v, rfl, k⟩ := z
    exact wpAny_pure k
/-- the right one's own == is asked where the left one, of a built-in type, knows nothing of it -/
theorem rc_back {u : Value} {T : String} {Q : Value → Shared → Prop} (hu : A.units < cLine) (KX : K.In s.heap) (J : PySem.W.InstAt s.heap x ox C od) (hT : s.TypeIs u T) (hs : PySem.W.mroIn K C (.type T) = some false)
    (hE : PySem.W.findIn K (.ref C) "__eq__" = some (some (.ref f))) (hf : PySem.W.isFn K (.ref f) = true) (no : wpAny (model prog w) A (tryCompare u "__eq__" (.ref x)) (fun r s' => r = none ∧ s' = s) E s)
    (hc : wpAny (model prog w) A (call (.ref f) [.ref x, u]) (fun v s' => ∃ r, v = .bool r ∧ Q (.bool r) s') E s) : wpAny (model prog w) A (richCompare .Eq u (.ref x)) Q E s := by
  have two : wpAny (model prog w) A (tryCompare (.ref x) "__eq__" u) (fun r s' => ∃ v, r = some v ∧ Q v s') E s := by
    unfold tryCompare
    refine wpAny_bind (PySem.W.ifBound_K KX J hE hf (wpAny_mono hc (fun v s' z => ?_) fun _ _ z => z))
    obtain ⟨r, rfl, q⟩ := z
    exact wpAny_pure ⟨_, rfl, q⟩
  simp only [richCompare, cmpInfo_Eq, hT.oneThing_none]
  refine wpAny_holding (wpAny_bind (wpAny_cRoomFor hu ?_))
  refine wpAny_bind (wpAny_typeOf hT (wpAny_bind (J.type.here ?_)))
  split
  · refine wpAny_bind ((PySem.W.looks_mroIn KX hs).here ?_)
    simp only [Bool.not_false, Bool.false_eq_true, if_true, if_false]
    refine wpAny_bind (m := tryCompare u _ (.ref x)) (wpAny_mono no (fun r s1 z => ?_) fun _ _ z => z)
    obtain ⟨rfl, rfl⟩ := z
    refine wpAny_bind (m := tryCompare (.ref x) _ u) (wpAny_mono two (fun r s2 z => ?_) fun _ _ z => z)
    obtain ⟨v, rfl, k⟩ := z
    exact wpAny_pure k
  · rename_i q
    exact absurd (by simp) q
/-- y is the one item of a list: is x in it? -/
theorem in_one {l : Addr} {y v : Value} {its : Array Value} {n : Nat} {dd : Option Addr} {sl : Array (Option Value)} {Q : Value → Shared → Prop} (i0 : its[0]? = some y) (hl : s.heap.get? l = some { cls := .type "list", dict := dd, data := .seq its n, slots := sl })
    (he : wpAny (model prog w) A.in1 (eqBool y v) (fun r s' => (∃ (its' : Array Value) (n' : Nat) (dd' : Option Addr) (sl' : Array (Option Value)), its'[1]? = none ∧ s'.heap.get? l = some { cls := .type "list", dict := dd', data := .seq its' n', slots := sl' }) ∧ Q (.bool r) s') E s) : wpAny (model prog w) A (compareOp .In v (.ref l)) Q E s := by
  show wpAny _ A (do return .bool (← contains (.ref l) v)) Q E s
  refine wpAny_bind (wpAny_contains_slot ⟨_, hl, rfl⟩ F.slot_list_contains (wpAny_mono (Q := fun z s' => ∃ r, z = .bool r ∧ Q (.bool r) s') (GQ.call_here F.slot_list_contains ⟨_, hl, rfl⟩ F.entry_list_contains (F.args_list_contains_2 _ _) ?_) (fun z s' hz => ?_) fun _ _ z => z))
  · obtain ⟨hp, g, d, tk, os⟩ := s
    wp_walk using wpAny_loadPart' hl
    refine ⟨plainId_quiet plain_contains_loop _, codeAny_builtin entry_contains_loop ?_⟩
    rw [Around.under_plainId plain_contains_loop _]
    have e0 : its[((0 : Nat) : Int).toNat]? = some y := i0
    have e0' : its[(0 : Int).toNat]? = some y := i0
    wp_walk using wpAny_loadPart' hl
    first | rw [e0] | rw [e0'] | rw [i0]
    refine wpAny_bind (wpAny_mono he (fun r s2 z => ?_) fun _ _ z => z)
    obtain ⟨⟨its', n', dd', sl', i1', hl2⟩, q⟩ := z
    obtain ⟨hp2, g2, d2, tk2, os2⟩ := s2
    cases r with
    | true =>
      wp_walk
      exact ⟨true, rfl, q⟩
    | false =>
      wp_walk
      refine ⟨plainId_quiet plain_contains_loop _, codeAny_builtin entry_contains_loop ?_⟩
      rw [Around.under_plainId plain_contains_loop _]
      have e1 : its'[((0 : Int) + 1).toNat]? = none := i1'
      wp_walk using wpAny_loadPart' hl2
      first | rw [e1] | rw [i1']
      wp_walk
      exact ⟨false, rfl, q⟩
  · obtain ⟨r, rfl, q⟩ := hz
    exact wpAny_truthy_bool (wpAny_pure q)
/-- what knows nothing of an instance -/
theorem no_none (hx : s.heap.get? x = some ox) : wpAny (model prog w) A (tryCompare .none "__eq__" (.ref x)) (fun r s' => r = none ∧ s' = s) E s :=
  wpAny_tryCompare_declines (T := "NoneType") rfl F.slot_NoneType_eq_refl (GQ.call_here F.slot_NoneType_eq_refl rfl F.entry_NoneType_eq (F.args_NoneType_eq_2 _ _) (by
    obtain ⟨hp, g, d, tk, os⟩ := s
    wp_walk
    exact ⟨rfl, rfl, rfl⟩))
theorem no_int {i : Int} {t : Tok} {dx : Addr} (hx : s.heap.get? x = some (PySem.W.instObj C dx)) : wpAny (model prog w) A (tryCompare (.int i t) "__eq__" (.ref x)) (fun r s' => r = none ∧ s' = s) E s :=
  wpAny_tryCompare_declines (T := "int") rfl F.slot_int_eq_refl (GQ.call_here F.slot_int_eq_refl rfl F.entry_int_eq (F.args_int_eq_2 _ _) (by
    obtain ⟨hp, g, d, tk, os⟩ := s
    wp_walk using wpAny_loadPart' hx, wpAny_load hx
    exact ⟨rfl, rfl, rfl⟩))
theorem no_bool {i : Bool} {dx : Addr} (hx : s.heap.get? x = some (PySem.W.instObj C dx)) : wpAny (model prog w) A (tryCompare (.bool i) "__eq__" (.ref x)) (fun r s' => r = none ∧ s' = s) E s :=
  wpAny_tryCompare_declines (T := "bool") rfl F.slot_bool_eq_refl (GQ.call_here F.slot_bool_eq_refl rfl F.entry_int_eq (F.args_int_eq_2 _ _) (by
    obtain ⟨hp, g, d, tk, os⟩ := s
    wp_walk using wpAny_loadPart' hx, wpAny_load hx
    exact ⟨rfl, rfl, rfl⟩))
theorem no_str {i : Str} {t : Tok} {dx : Addr} (hx : s.heap.get? x = some (PySem.W.instObj C dx)) : wpAny (model prog w) A (tryCompare (.str i t) "__eq__" (.ref x)) (fun r s' => r = none ∧ s' = s) E s :=
  wpAny_tryCompare_declines (T := "str") rfl F.slot_str_eq_refl (GQ.call_here F.slot_str_eq_refl rfl F.entry_str_eq (F.args_str_eq_2 _ _) (by
    obtain ⟨hp, g, d, tk, os⟩ := s
    wp_walk using wpAny_loadPart' hx, wpAny_load hx
    exact ⟨rfl, rfl, rfl⟩))
theorem no_list {l : Addr} {its : Array Value} {n : Nat} {dd : Option Addr} {sl : Array (Option Value)} (hl : s.heap.get? l = some { cls := .type "list", dict := dd, data := .seq its n, slots := sl }) (KX : K.In s.heap) (J : PySem.W.InstAt s.heap x ox C od) (hm : PySem.W.mroIn K C (.type "list") = some false) :
    wpAny (model prog w) A (tryCompare (.ref l) "__eq__" (.ref x)) (fun r s' => r = none ∧ s' = s) E s :=
  wpAny_tryCompare_declines (T := "list") ⟨_, hl, rfl⟩ F.slot_list_eq_refl (GQ.call_here F.slot_list_eq_refl ⟨_, hl, rfl⟩ F.entry_list_eq (F.args_list_eq_2 _ _) (by
    have e : PySem.W.Looks (model prog w) s.heap (isInstance (.ref x) (.type "list")) false := J.type.andThen (PySem.W.looks_mroIn KX hm)
    obtain ⟨hp, g, d, tk, os⟩ := s
    wp_walk using wpAny_loadPart' hl, e.here
    exact ⟨rfl, rfl, rfl⟩))
theorem no_tup {l : Addr} {its : Array Value} {n : Nat} {dd : Option Addr} {sl : Array (Option Value)} (hl : s.heap.get? l = some { cls := .type "tuple", dict := dd, data := .seq its n, slots := sl }) (KX : K.In s.heap) (J : PySem.W.InstAt s.heap x ox C od) (hm : PySem.W.mroIn K C (.type "tuple") = some false) :
    wpAny (model prog w) A (tryCompare (.ref l) "__eq__" (.ref x)) (fun r s' => r = none ∧ s' = s) E s :=
  wpAny_tryCompare_declines (T := "tuple") ⟨_, hl, rfl⟩ F.slot_tuple_eq_refl (GQ.call_here F.slot_tuple_eq_refl ⟨_, hl, rfl⟩ F.entry_tuple_eq (F.args_tuple_eq_2 _ _) (by
    have e : PySem.W.Looks (model prog w) s.heap (isInstance (.ref x) (.type "tuple")) false := J.type.andThen (PySem.W.looks_mroIn KX hm)
    obtain ⟨hp, g, d, tk, os⟩ := s
    wp_walk using wpAny_loadPart' hl, e.here
    exact ⟨rfl, rfl, rfl⟩))
end
end SW

set_option Elab.async false
set_option linter.all false
set_option maxRecDepth 100000
namespace SH
open PySem PySem.Spec PyProof.Rows L2
/-- a class with its own ==, and nothing else of that kind -/
structure OwnQ (K : PySem.W.Frag) (C f : Addr) : Prop where
  eq : PySem.W.findIn K (.ref C) "__eq__" = some (some (.ref f))
  fn : PySem.W.isFn K (.ref f) = true
  ne : PySem.W.findIn K (.ref C) "__ne__" = some (some (.builtin "object.__ne__"))
  obj : PySem.W.mroIn K C (.type "object") = some true
  li : PySem.W.mroIn K C (.type "list") = some false
  tu : PySem.W.mroIn K C (.type "tuple") = some false
  it : PySem.W.mroIn K C (.type "int") = some false
  bo : PySem.W.mroIn K C (.type "bool") = some false
  st : PySem.W.mroIn K C (.type "str") = some false
  no : PySem.W.mroIn K C (.type "NoneType") = some false
/-- a promise that gives a truth -/
def Tru (sp : Sp) (a : Addr) (y : V) (H : Hp) (Q : Bool → Hp → Prop) : Prop := sp [.ref a, y] H (fun z H' => ∃ r, z = .bl r ∧ Q r H') E0
section
variable {X : Cx} {n : Nat} {C f : Addr} {fd : FuncData} {ps : List PySem.Str} {sp : Sp} {pins : List (Addr × Obj)} {σ : L2.St} {H : Hp} {s : Shared}
theorem own_run (F : FnOk X.prog X.w X.K X.mg X.base CX0 n f fd ps sp) (hb : Binds X.K fd ps []) {A : Around} (sb : Sub X n A) (I : Inv X pins σ H s) {a : Addr} {y : V} {v : Value} (ry : RelV y v) {Q : Bool → Hp → Prop} (q : Tru sp a y H Q) :
    wpAny (model X.prog X.w) A (call (.ref f) [.ref a, v]) (fun r s' => ∃ z H', r = .bool z ∧ Inv X pins σ H' s' ∧ Q z H') X.xe s := by
  have e0 : Env0 X.prog X.w X.K X.mg X.base A X.stack s H := by
    have e := I.env0
    exact ⟨by rw [sb.fr]; exact e.frames, e.mod, e.bs, e.bsz, e.funs, e.frf, e.hok, e.bare⟩
  have hl := F.len _ _ _ _ q
  have rv : Vals [V.ref a, y] [Value.ref a, v] := .cons rfl (.cons ry .nil)
  refine wpAny_call (codeAny_mono (F.run A X.stack s H ⟨[.ref a, v], []⟩ [.ref a, v] [.ref a, y] _ E0 sb.room e0 (by
    have := hb s [.ref a, v] I.kIn (by simpa using hl)
    simpa using this) rv q) fun r s' hq => ?_)
  cases r with
  | error e => exact hq.elim
  | ok fl =>
    cases fl with
    | ret w =>
      obtain ⟨z, H', I', rz, t, rfl, k⟩ := I.after hq
      cases rz
      exact ⟨t, H', rfl, I', k⟩
    | next => exact False.elim hq
    | brk => exact False.elim hq
    | cont => exact False.elim hq
def rEqO (K : PySem.W.Frag) (C : Addr) (sp : Sp) (neg : Bool) : R2 := fun x y H Q => ∃ (a dx : Addr) (fs : List (PySem.Str × V)) (t : Value), x = .ref a ∧ H a = some (.ins C dx fs) ∧ TyX K H y t ∧ PySem.W.notFirst K C t = true ∧ Tru sp a y H fun r H' => Q (.bl (if neg then !r else r)) H'
theorem rc_own (T : OwnQ X.K C f) (F : FnOk X.prog X.w X.K X.mg X.base CX0 n f fd ps sp) (hb : Binds X.K fd ps []) {A : Around} (sb : Sub X n A) (I : Inv X pins σ H s) {a dx : Addr} {fs : List (PySem.Str × V)} {y : V} {v t : Value} (ha : H a = some (.ins C dx fs)) (ry : RelV y v) (ty : TyX X.K H y t) (nf : PySem.W.notFirst X.K C t = true) {Q : Bool → Hp → Prop} (q : Tru sp a y H Q) :
    wpAny (model X.prog X.w) A (richCompare .Eq (.ref a) v) (fun r s' => ∃ z H', r = .bool z ∧ Inv X pins σ H' s' ∧ Q z H') X.xe s := by
  obtain ⟨mA, om, _⟩ := ins_get I.hok ha
  obtain ⟨od, J, _⟩ := om.look
  obtain ⟨P, Z, p, _⟩ := kit_of I ry ty
  obtain ⟨m, hF⟩ := I.fr
  refine PySem.W.cmp_K (op := .Eq) sb.room.units0 hF I.ok.mod.kin J (Z.ty _ _ I.kIn p) nf T.eq T.fn (wpAny_mono (own_run F hb sb I ry q) (fun r s' z => ?_) fun _ _ z => z)
  obtain ⟨t, H', rfl, k⟩ := z
  exact ⟨t, H', rfl, k⟩
theorem op_eqO (T : OwnQ X.K C f) (F : FnOk X.prog X.w X.K X.mg X.base CX0 n f fd ps sp) (hb : Binds X.K fd ps []) (hr : Room n X.A) : OpR X (compareOp .Eq) (rEqO X.K C sp false) := by
  intro pins s σ H x y v u Q I rx ry h
  obtain ⟨a, dx, fs, t, rfl, ha, ty, nf, q⟩ := h
  cases rx
  refine (show wpAny (model X.prog X.w) X.A (richCompare .Eq (.ref a) u) _ _ s from wpAny_mono (rc_own T F hb ⟨hr, rfl⟩ I ha ry ty nf q) (fun r s' z => ?_) fun _ _ z => z)
  obtain ⟨t, H', rfl, I', k⟩ := z
  exact ⟨.bl t, H', I', rfl, k⟩
theorem op_neO (T : OwnQ X.K C f) (F : FnOk X.prog X.w X.K X.mg X.base CX0 n f fd ps sp) (hb : Binds X.K fd ps []) (hr : Room (n + 1) X.A) : OpR X (compareOp .NotEq) (rEqO X.K C sp true) := by
  intro pins s σ H x y v u Q I rx ry h
  obtain ⟨a, dx, fs, t, rfl, ha, ty, nf, q⟩ := h
  cases rx
  obtain ⟨mA, om, _⟩ := ins_get I.hok ha
  obtain ⟨od, J, _⟩ := om.look
  obtain ⟨P, Z, p, _⟩ := kit_of I ry ty
  have hu : X.A.units + 1 < cLine := hr.in1.units0
  refine (show wpAny (model X.prog X.w) X.A (richCompare .NotEq (.ref a) u) _ _ s from SW.rc_ne hu I.kIn J (Z.ty _ _ I.kIn p) nf T.ne T.eq T.fn T.obj (wpAny_mono (own_run F hb ⟨hr.in1, rfl⟩ I ry q) (fun r s' z => ?_) fun _ _ z => z))
  obtain ⟨t, H', rfl, I', k⟩ := z
  exact ⟨t, rfl, .bl (!t), H', I', rfl, k⟩
/-- b in [a], both of the class, not the same -/
def rInO (K : PySem.W.Frag) (C : Addr) (sp : Sp) : R2 := fun x y H Q => ∃ (a b l dx : Addr) (fs : List (PySem.Str × V)) (t : Value), x = .ref b ∧ y = .ref l ∧ b ≠ a ∧ H l = some (.lst [.ref a]) ∧ H a = some (.ins C dx fs) ∧ TyX K H x t ∧ PySem.W.notFirst K C t = true ∧ Tru sp a x H fun r H' => H' l = some (.lst [.ref a]) ∧ Q (.bl r) H'
theorem op_inO (T : OwnQ X.K C f) (F : FnOk X.prog X.w X.K X.mg X.base CX0 n f fd ps sp) (hb : Binds X.K fd ps []) (hr : Room (n + 1) X.A) : OpR X (compareOp .In) (rInO X.K C sp) := by
  intro pins s σ H x y v u Q I rx ry h
  obtain ⟨a, b, l, dx, fs, t, rfl, rfl, ne, hl, ha, ty, nf, q⟩ := h
  cases rx
  cases ry
  obtain ⟨_, its, n0, rv, hl1⟩ := (show ObjOk X.prog X.w H s.heap l (.lst [.ref a]) from I.hok l _ hl)
  obtain ⟨u1, e1, r1⟩ := vals1 rv
  subst e1
  cases r1
  refine SW.in_one (y := .ref a) rfl hl1 (GQ.eqBool_refG (Ne.symm ne) (wpAny_mono (rc_own T F hb ⟨hr.in1, rfl⟩ I ha (show RelV (.ref b) (.ref b) from rfl) ty nf q) (fun r s' z => ?_) fun _ _ z => z))
  obtain ⟨t, H', rfl, I', hl', k⟩ := z
  obtain ⟨_, its', n1, rv', hl2⟩ := (show ObjOk X.prog X.w H' s'.heap l (.lst [.ref a]) from I'.hok l _ hl')
  obtain ⟨u2, e2, _⟩ := vals1 rv'
  subst e2
  exact ⟨t, rfl, ⟨_, _, _, _, rfl, hl2⟩, .bl t, H', I', rfl, k⟩
/-- a thing of a built-in type -/
inductive Alien (H : Hp) : V → Prop where
  | non : Alien H .non
  | bl (b : Bool) : Alien H (.bl b)
  | int (i : Int) : Alien H (.int i)
  | str (z : PySem.Str) : Alien H (.str z)
  | lst {p : Addr} {xs : List V} (e : H p = some (.lst xs)) : Alien H (.ref p)
  | tup {p : Addr} {xs : List V} (e : H p = some (.tup xs)) : Alien H (.ref p)
theorem Alien.ty {K : PySem.W.Frag} {H : Hp} {C : Addr} {z : V} (h : Alien H z) : ∃ t, TyX K H z t ∧ PySem.W.notFirst K C t = true := by
  have no : ∀ T l, fastBuiltinMro T = some l → l.contains (Value.ref C) = false → PySem.W.notFirst K C (.type T) = true := fun T l e c => by
    have : PySem.W.subIn K (.type T) (.ref C) = some false := by
      show (fastBuiltinMro T).map (·.contains (.ref C)) = some false
      rw [e, Option.map_some, c]
    unfold PySem.W.notFirst
    rw [this]
    simp
  cases h with
  | non => exact ⟨_, .base .non, no "NoneType" [.type "NoneType", .type "object"] (by decide +kernel) (by simp)⟩
  | bl b => exact ⟨_, .base (.bl b), no "bool" [.type "bool", .type "int", .type "object"] (by decide +kernel) (by simp)⟩
  | int i => exact ⟨_, .base (.int i), no "int" [.type "int", .type "object"] (by decide +kernel) (by simp)⟩
  | str z => exact ⟨_, .base (.str z), no "str" [.type "str", .type "object"] (by decide +kernel) (by simp)⟩
  | lst e => exact ⟨_, .base (.lst e), no "list" [.type "list", .type "object"] (by decide +kernel) (by simp)⟩
  | tup e => exact ⟨_, .base (.tup e), no "tuple" [.type "tuple", .type "object"] (by decide +kernel) (by simp)⟩
theorem eq_alien (T : OwnQ X.K C f) (F : FnOk X.prog X.w X.K X.mg X.base CX0 n f fd ps sp) (hb : Binds X.K fd ps []) {A : Around} (sb : Sub X n A) (I : Inv X pins σ H s) {a dx : Addr} {fs : List (PySem.Str × V)} {z : V} {v : Value} (ha : H a = some (.ins C dx fs)) (rz : RelV z v) (al : Alien H z) {Q : Bool → Hp → Prop} (q : Tru sp a z H Q) :
    wpAny (model X.prog X.w) A (eqBool v (.ref a)) (fun r s' => ∃ H', Inv X pins σ H' s' ∧ Q r H') X.xe s := by
  obtain ⟨mA, om, _⟩ := ins_get I.hok ha
  obtain ⟨od, J, _⟩ := om.look
  have run := own_run F hb sb I rz q
  have hu := sb.room.units0
  have back : ∀ {T' : String}, s.TypeIs v T' → PySem.W.mroIn X.K C (.type T') = some false → wpAny (model X.prog X.w) A (tryCompare v "__eq__" (.ref a)) (fun r s' => r = none ∧ s' = s) X.xe s →
      wpAny (model X.prog X.w) A (richCompare .Eq v (.ref a)) (fun w s' => ∃ r H', w = .bool r ∧ Inv X pins σ H' s' ∧ Q r H') X.xe s := fun hT hm no =>
    SW.rc_back hu I.kIn J hT hm T.eq T.fn no (wpAny_mono run (fun w s' k => by
      obtain ⟨r, H', rfl, I', k⟩ := k
      exact ⟨r, rfl, r, H', rfl, I', k⟩) fun _ _ k => k)
  have flat : (v == Value.ref a) = false → (∀ bits tok, v ≠ .float bits tok) → wpAny (model X.prog X.w) A (richCompare .Eq v (.ref a)) (fun w s' => ∃ r H', w = .bool r ∧ Inv X pins σ H' s' ∧ Q r H') X.xe s →
      wpAny (model X.prog X.w) A (eqBool v (.ref a)) (fun r s' => ∃ H', Inv X pins σ H' s' ∧ Q r H') X.xe s := fun ne _ h => by
    unfold eqBool
    refine wpAny_holding (wpAny_ite_split (fun k => absurd k (by rw [ne]; simp)) fun _ => ?_)
    have go : wpAny (model X.prog X.w) A (do let r ← richCompare .Eq v (.ref a); truthOfDropped r) (fun r s' => ∃ H', Inv X pins σ H' s' ∧ Q r H') X.xe s := by
      refine wpAny_bind (wpAny_mono h (fun w s' k => ?_) fun _ _ k => k)
      obtain ⟨r, H', rfl, I', k⟩ := k
      exact wpAny_truthy_bool ⟨H', I', k⟩
    cases v <;> exact go
  cases al with
  | non =>
    cases rz
    exact flat rfl (fun _ _ k => nomatch k) (back rfl T.no (SW.no_none J.at_))
  | bl b =>
    cases rz
    exact flat rfl (fun _ _ k => nomatch k) (back rfl T.bo (SW.no_bool J.at_))
  | int i =>
    obtain ⟨t, rfl⟩ := rz
    exact flat rfl (fun _ _ k => nomatch k) (back rfl T.it (SW.no_int J.at_))
  | str i =>
    obtain ⟨t, rfl⟩ := rz
    exact flat rfl (fun _ _ k => nomatch k) (back rfl T.st (SW.no_str J.at_))
  | @lst p xs e =>
    cases rz
    obtain ⟨_, its, n0, _, hl⟩ := (show ObjOk X.prog X.w H s.heap p (.lst xs) from I.hok p _ e)
    have ne : p ≠ a := fun k => by
      rw [k, ha] at e
      cases e
    exact flat (by simpa using ne) (fun _ _ k => nomatch k) (back ⟨_, hl, rfl⟩ T.li (SW.no_list hl I.kIn J T.li))
  | @tup p xs e =>
    cases rz
    obtain ⟨_, its, _, o, h1, h2, n0, h3⟩ := (show ObjOk X.prog X.w H s.heap p (.tup xs) from I.hok p _ e)
    have ne : p ≠ a := fun k => by
      rw [k, ha] at e
      cases e
    obtain ⟨oc, od', dt, sl⟩ := o
    simp only at h2 h3
    subst h2 h3
    exact flat (by simpa using ne) (fun _ _ k => nomatch k) (back ⟨_, h1, rfl⟩ T.tu (SW.no_tup h1 I.kIn J T.tu))
/-- a in [z], z of a built-in type -/
def rInB (C : Addr) (sp : Sp) : R2 := fun x y H Q => ∃ (a l dx : Addr) (fs : List (PySem.Str × V)) (z : V), x = .ref a ∧ y = .ref l ∧ H l = some (.lst [z]) ∧ H a = some (.ins C dx fs) ∧ Alien H z ∧ Tru sp a z H fun r H' => H' l = some (.lst [z]) ∧ Q (.bl r) H'
theorem op_inB (T : OwnQ X.K C f) (F : FnOk X.prog X.w X.K X.mg X.base CX0 n f fd ps sp) (hb : Binds X.K fd ps []) (hr : Room (n + 1) X.A) : OpR X (compareOp .In) (rInB C sp) := by
  intro pins s σ H x y v u Q I rx ry h
  obtain ⟨a, l, dx, fs, z, rfl, rfl, hl, ha, al, q⟩ := h
  cases rx
  cases ry
  obtain ⟨_, its, n0, rv, hl1⟩ := (show ObjOk X.prog X.w H s.heap l (.lst [z]) from I.hok l _ hl)
  obtain ⟨u1, e1, r1⟩ := vals1 rv
  subst e1
  refine SW.in_one (y := u1) rfl hl1 (wpAny_mono (eq_alien T F hb ⟨hr.in1, rfl⟩ I ha r1 al q) (fun r s' k => ?_) fun _ _ k => k)
  obtain ⟨H', I', hl', k⟩ := k
  obtain ⟨_, its', n1, rv', hl2⟩ := (show ObjOk X.prog X.w H' s'.heap l (.lst [z]) from I'.hok l _ hl')
  obtain ⟨u2, e2, _⟩ := vals1 rv'
  subst e2
  exact ⟨⟨_, _, _, _, rfl, hl2⟩, .bl r, H', I', rfl, k⟩
end
end SH

set_option Elab.async false
set_option linter.all false
set_option maxRecDepth 100000
/-! repr of plain data; defs that ask for it, which are called where no such text is under way. -/
namespace SH
open PySem PySem.Spec PyProof.Rows L2
/-- a def's promise, where no guard stands around the call -/
structure FnG (P : Program) (w : World) (K : PySem.W.Frag) (mg : PySem.Str → Option Value) (base : Heap) (k : Nat) (f : Addr) (fd : FuncData) (ps : List PySem.Str) (sp : Sp) : Prop where
  len : ∀ vs H Q E, sp vs H Q E → vs.length = ps.length
  run : ∀ (A : Around) (outer : List Env) (s : Shared) (H : Hp) (args : Args) (us : List Value) (vs : List V) (Q : VK) (E : XK), A.guards = some [] → Room k A → Env0 P w K mg base A outer s H →
    BindsTo s fd args (ps.zip us) → Vals vs us → sp vs H Q E → codeAny (model P w) A (.call (.ref f) args) (CR CX0 outer P w H s Q E) s
section
variable {P : Program} {w : World} {K : PySem.W.Frag} {mg : PySem.Str → Option Value} {base : Heap}
theorem FnG.of {k : Nat} {f : Addr} {fd : FuncData} {ps : List PySem.Str} {sp : Sp} (F : FnOk P w K mg base CX0 k f fd ps sp) : FnG P w K mg base k f fd ps sp :=
  ⟨F.len, fun A outer s H args us vs Q E _ => F.run A outer s H args us vs Q E⟩
theorem FnG.mono {j k : Nat} {f : Addr} {fd : FuncData} {ps : List PySem.Str} {sp : Sp} (F : FnG P w K mg base j f fd ps sp) (h : j ≤ k) : FnG P w K mg base k f fd ps sp :=
  ⟨F.len, fun A outer s H args us vs Q E g r => F.run A outer s H args us vs Q E g (r.mono h)⟩
/-- a def of the text, by its body -/
theorem okG {x qual : PySem.Str} {st : Stmt} {f : Addr} {fd : FuncData} {N ps : List PySem.Str} {k : Nat} {sp : Sp} (F : Fun K x qual st f fd) (S : FnScope N ps (defScope st)) (len : ∀ vs H Q E, sp vs H Q E → vs.length = ps.length)
    (body : ∀ (cdv : Value) (A : Around) (outer : List Env) (s : Shared) (H : Hp) (vs : List V) (Q : VK) (E : XK), (A.deeper (envOfC qual (defScope st) s.heap.objs.size f cdv)).guards = some [] → Room k (A.deeper (envOfC qual (defScope st) s.heap.objs.size f cdv)) → sp vs H Q E →
      ∃ t, PSs (cxOf CX0 P w K mg base N qual (defScope st) f cdv A outer s H E).nox (defBody st) t ∧ t { nx := fun _ H' => Q .non H', rt := Q } (start N vs) H) : FnG P w K mg base (k + 1) f fd ps sp := by
  obtain ⟨oc, od, kV, doc, pm, an, cdv, ct, osl, rfl, look, code⟩ := F.ex
  refine ⟨len, ?_⟩
  intro A outer s H args us vs Q E gd room env bind rel want
  have many := len _ _ _ _ want
  have still : ∀ b o, base.get? b = some o → s.heap.get? b = some o := fun b o e => (env.bs b o e).1
  have inK := env.mod.kin.keeps still
  refine codeAny_call_function room.depth (inK _ _ look) rfl S.co S.gen rfl (PySem.W.codeRec_of inK code) (bind _ _ _ _ ?_)
  refine wpAny_newFunctionEnv_cells S.kind ?_ fun env' he s1 made => ?_
  · rintro ⟨n, v⟩ hy
    cases S.par n (List.of_mem_zip hy).1 with
    | inl q => exact .inl q
    | inr q => exact .inr ⟨q, PySem.W.cellsFrom_some _ _ _ (.inl q)⟩
  subst he
  refine ⟨(env.mod.nolimit.keeps still).keeps made.toInCall.keep, codeAny_func ?_⟩
  obtain ⟨t, ht, hq⟩ := body cdv A outer s H vs Q E gd (room.deeper _) want
  have begun : Inv (cxOf CX0 P w K mg base N qual (defScope st) f cdv A outer s H E) [] (start N vs) H s1 := inv_start S room.hd env many rel made
  refine wpAny_mono (ht.nox.run [] s1 _ H _ begun hq) (fun fl s' out => ?_) fun _ _ out => out
  cases fl with
  | ret u => exact let ⟨v, _, H', J, rv, q⟩ := out; ⟨v, H', J.os, J.bare, J.base, J.hok, rv, q⟩
  | next => exact let ⟨_, H', J, q⟩ := out; ⟨V.non, H', J.os, J.bare, J.base, J.hok, rfl, q⟩
  | brk => exact (let ⟨_, _, _, q⟩ := out; False.elim q)
  | cont => exact (let ⟨_, _, _, q⟩ := out; False.elim q)
end
section
variable {X : Cx}
/-- f(..) of such a def -/
theorem pe_callG {k : Nat} {f : Addr} {fd : FuncData} {ps : List PySem.Str} {sp : Sp} {x : PySem.Str} {p pos : Pos} {e : Expr} {es : List Expr} {t : TA} (F : FnG X.prog X.w X.K X.mg X.base k f fd ps sp) (gd : X.A.guards = some []) (hr : Room k X.A) (hg : Gl X x) (hm : X.mg x = some (.ref f)) (hk : PySem.W.keepIn X.K (.ref f) = true) (hb : Binds X.K fd ps [])
    (ha : PA X (e :: es) t) (hdb : (x == ("__debug__" : PySem.Str)) = false := by decide) (he : starEach (e :: es) X.env = (false, eval e X.env) :: starEach es X.env := by rfl) (hpl : (backTo pos (starEach es X.env)).any (·.1) = false := by rfl) :
    PE X (.Call (.Name x p) (e :: es) [] pos) (tCall sp [] E0 t) := by
  constructor
  intro pins s σ H Q I h
  refine wpAny_Call_Name_kw (ld_glob I hg hm ?_ hdb)
  refine PySem.W.callWith_K (h₀ := X.base) I.ok.mod.kin hk (thn (ha.run pos pins s σ H _ I h) ?_) he hpl
  rintro us s1 ⟨vs, H1, I1, r, q⟩
  rw [List.append_nil] at q
  refine ⟨I1.kIn, wpAny_call (codeAny_mono (F.run X.A X.stack s1 H1 ⟨us, []⟩ us vs Q E0 gd hr I1.env0 ?_ r q) fun r' s' hq => ?_)⟩
  · have := hb s1 us I1.kIn (by rw [List.append_nil, ← r.length]; exact F.len _ _ _ _ q)
    rwa [List.append_nil] at this
  · cases r' with
    | error e => exact False.elim hq
    | ok fl =>
      cases fl with
      | ret u => exact I1.after hq
      | next => exact False.elim hq
      | brk => exact False.elim hq
      | cont => exact False.elim hq
/-- repr(x), x a list or tuple of plain data -/
def rRepr (K : PySem.W.Frag) : List V → Hp → VK → Prop := fun xs H Q => ∃ (a : Addr) (d : PyData), xs = [.ref a] ∧ Dp K H (.ref a) d ∧ d.showable = true ∧ d.hasDict = false ∧ d.depth ≤ 60 ∧ d.shown.length ≤ sizeLine ∧ Q (.str d.shown) H
theorem call_reprD (gd : X.A.guards = some []) (hu : X.A.units + 64 < cLine) : CallR X (.builtin "repr") (rRepr X.K) := by
  intro pins s σ H xs us Q I r h
  obtain ⟨a, d, rfl, dp, sh, nd, de, sz, q⟩ := h
  obtain ⟨u, rfl, ru⟩ := vals1 r
  cases ru
  obtain ⟨as, rd⟩ := Dp.reads I d _ _ dp rfl
  refine repr_of_reads' rd sh (fun z => by rw [nd] at z; cases z) gd (by omega) (fun _ _ e => e) (fun h' t tk kp => ?_) sz
  exact ⟨.str d.shown, H, I.kept (t' := tk) kp, ⟨_, rfl⟩, q⟩
theorem call_reprK (K : PySem.W.Frag) (gd : X.A.guards = some []) (hu : X.A.units + 64 < cLine) (hK : X.K = K := by rfl) : CallR X (.builtin "repr") (rRepr K) := hK ▸ call_reprD gd hu
end
/-! ### the beginning -/
/-- the heap in which the script alone is known, and what comes of the law's end -/
theorem law_begin {P : Program} {w : World} {K : PySem.W.Frag} {mg mb : PySem.Str → Option Value} {a : Addr} {s₁ : Shared} {vs : List Value} {ns : List Int} (inK : K.In s₁.heap) (gl : s₁.heap.Ns mainGlobals mg) (bl : s₁.heap.Ns builtinsNs mb) (boot : ∀ x : PySem.Str, x ≠ "__name__" → mb x = bootBuiltins x) (nl : s₁.heap.NoLimit) (gens : s₁.gens = #[])
    (at_ : s₁.heap.get? a = some { cls := .type "list", data := .seq vs.toArray }) (hin : IntsAre vs ns) (few : ns.length ≤ sizeLine) :
    ∃ (H : Hp) (base : Heap), SqL K H a (ns.map V.int) ∧ Env0 P w K mg base callerA [] s₁ H ∧ K.In base ∧ base.Ns mainGlobals mg ∧ ∀ (r : Result) (s' : Shared), CR CX0 [] P w H s₁ (fun v _ => v = .bl true) E0 r s' → r = .ok (.ret (.bool true)) ∧ OldK s₁.heap s'.heap ∧ s'.os = s₁.os ∧ AllBare s'.gens := by
  have vals := vals_ints hin
  have many := hin.length
  -- any heap that knows no more than the script, as it lies there
  have any : ∀ H : Hp, (∀ b u, H b = some u → b = a ∧ K.lookup a = none ∧ ∃ o xs, u = .frz o xs) → SqL K H a (ns.map V.int) → HOk P w H s₁.heap →
      ∃ (H : Hp) (base : Heap), SqL K H a (ns.map V.int) ∧ Env0 P w K mg base callerA [] s₁ H ∧ K.In base ∧ base.Ns mainGlobals mg ∧ ∀ (r : Result) (s' : Shared), CR CX0 [] P w H s₁ (fun v _ => v = .bl true) E0 r s' → r = .ok (.ret (.bool true)) ∧ OldK s₁.heap s'.heap ∧ s'.os = s₁.os ∧ AllBare s'.gens := by
    intro H only sq ok
    have clear : ∀ {b : Addr} {o : Obj}, s₁.heap.get? b = some o → (b = a → K.lookup a = none → False) → (hidT s₁.heap H).get? b = some o := fun {b o} e no => by
      refine hidT_get e ?_
      cases q : H b with
      | none => rfl
      | some u => exact (no (only b u q).1 (only b u q).2.1).elim
    have ns' : ∀ {b : Addr} {m : PySem.Str → Option Value}, s₁.heap.Ns b m → (hidT s₁.heap H).Ns b m := by
      rintro b m ⟨o, es, ep, e, d, r⟩
      refine ⟨o, es, ep, clear e fun z _ => ?_, d, r⟩
      subst z
      rw [at_] at e
      cases e
      cases (show Data.seq vs.toArray _ = Data.dict es ep from d)
    have kb : K.In (hidT s₁.heap H) := fun b o e => clear (inK b o e) fun z n => by
      subst z
      rw [n] at e
      cases e
    refine ⟨H, hidT s₁.heap H, sq, ⟨rfl, ⟨kb, ns' gl, ⟨mb, ns' bl, boot⟩, ?_⟩, fun b o e => of_hidT e, Nat.le_of_eq (hidT_size _ _), trivial, ?_, ok, .of_eq gens⟩, kb, ns' gl, ?_⟩
    · obtain ⟨mc, h1, h2⟩ := nl
      exact ⟨mc, ns' h1, h2⟩
    · intro b hb
      cases (show b ∈ ([] : List Addr) from hb)
    · intro r s' h
      cases r with
      | error e => exact False.elim h
      | ok fl =>
        cases fl with
        | next => exact False.elim h
        | brk => exact False.elim h
        | cont => exact False.elim h
        | ret u =>
          obtain ⟨v, H', os, bare, un, ok', rv, q⟩ := h
          cases (show v = .bl true from q)
          cases (show u = Value.bool true from rv)
          refine ⟨rfl, OldK.of_keep fun b o e => ?_, os, bare⟩
          cases q : H b with
          | none => exact un.keep b o e q (fun z => by cases (show b ∈ ([] : List Addr) from z)) (by simp)
          | some u =>
            obtain ⟨_, _, ob, xs, rfl⟩ := only b u q
            have e1 := (ok b _ q).1
            rw [e] at e1
            cases e1
            exact (ok' b _ (un.frzs b _ _ q)).1
  cases look : K.lookup a with
  | some o =>
    have e := inK a o look
    rw [at_] at e
    cases e
    refine any (fun _ => none) (fun b u z => by cases z) ?_ (fun b u z => by cases (show (none : Option HO) = some u from z))
    exact .inr ⟨_, vs.toArray, _, look, rfl, rfl, rfl, by rw [List.size_toArray, many]; exact few, by simpa using vals⟩
  | none =>
    refine any (fun b => if b = a then some (.frz { cls := .type "list", data := .seq vs.toArray } (.lst (ns.map V.int))) else none) ?_ (.inl (.inr ⟨{ cls := .type "list", data := .seq vs.toArray }, if_pos rfl⟩)) ?_
    · intro b u z
      by_cases hb : b = a
      · rw [if_pos hb] at z
        cases z
        exact ⟨hb, look, _, _, rfl⟩
      · rw [if_neg hb] at z
        cases z
    · intro b u z
      by_cases hb : b = a
      · have z' := (if_pos hb).symm.trans z
        cases z'
        subst hb
        exact ⟨at_, by rw [List.length_map]; exact few, vs, _, vals, at_⟩
      · cases (if_neg hb).symm.trans z
/-- the law's walk, from such a promise of it -/
theorem walk_G {l : PySem.W.OpenLaw} {k : Nat} {q : Program} {loose : List PySem.Str} {XP : (PySem.Str → Option Value) → Heap → Prop} {YP : World → Heap → Prop} {d : DefRec} {K : Params → PySem.W.Frag} {sp : PySem.W.Frag → Sp} (most : l.most = some 63) (nodf : d.params.defaults = []) (room : Room k callerA)
    (hY : ∀ (w : World) (h : Heap), YP w h → (K w.params).In h)
    (F : ∀ (w : World) (mg : PySem.Str → Option Value) (fa : Addr) (h : Heap), (K w.params).In h → h.Ns mainGlobals mg → mg d.name = some (.ref fa) →
      ∃ fd : FuncData, (∀ (s : Shared) (u : Value), BindsTo s fd ⟨[u], []⟩ [("_law_script", u)]) ∧ ∀ base : Heap, (K w.params).In base → base.Ns mainGlobals mg → FnG l.prog w (K w.params) mg base k fa fd ["_law_script"] (sp (K w.params)))
    (hsp : ∀ (K : PySem.W.Frag) (H : Hp) (a : Addr) (ns : List Int), ns.length ≤ 63 → SqL K H a (ns.map V.int) → sp K [.ref a] H (fun v _ => v = .bl true) E0) :
    PySem.W.WalkO q loose XP YP l.row.toRowW d [] (fun f vs => PySem.call f vs) := by
  refine Att.attach_call most nodf fun w s₀ s₁ mg mb fa o pm cd doc a vs ns G Y ho hd hcd hmg hobj hints hlen hg => ?_
  obtain ⟨fd, hb, hF⟩ := F w mg fa _ (hY w _ Y) G.T.g hmg
  obtain ⟨H, base, sq, env, kb, nb, out⟩ := law_begin (P := l.prog) (w := w) (hY w _ Y) G.T.g G.T.b G.T.builtins G.T.nolimit hg hobj hints (Nat.le_trans hlen (by decide))
  exact codeAny_mono ((hF base kb nb).run callerA [] s₁ H ⟨[.ref a], []⟩ [.ref a] [.ref a] _ _ rfl room env (hb s₁ (.ref a)) (.cons rfl .nil) (hsp _ H a ns hlen sq)) out
end SH

set_option Elab.async false
set_option linter.all false
set_option maxRecDepth 100000
set_option maxHeartbeats 2000000
/-! Errors of one's own whose __init__ says super().__init__(f'..') and keeps its one argument: raw. -/
namespace SH
open PySem PySem.W PySem.Calls PySem.Spec PyProof.Rows PySem.HandSPX
section
variable {prog : Program} {w : World} {A : Around} {E : Value → Shared → Prop} {R : Result → Shared → Prop} {h : Heap} {g : Array GenState} {d : Drawn} {t : Nat} {os : OsState}
open Builtin Builtin.ObjectAttr
/-- the first field stored on an error, whatever built-in it comes of -/
theorem osaB {K : Frag} {name : PySem.Str} {tk : Tok} {v : Value} {x C : Addr} {fv : Array Value} {cd : ClassData}
    (X : K.In h) (hx : h.get? x = some { cls := .ref C, data := .fields fv }) (hcd : clsIn K C = some cd) (some_ : cd.mro.isEmpty = false) (obj : cd.mro.contains (.type "object") = true) (pass : ∀ self : Value, refuseLoop self "__setattr__" cd.mro = pure ()) (hh : cd.hasDict = true) (ha : findIn K (.ref C) name = some none)
    (out : ∀ h' tk' dx, (∀ b o, b ≠ x → h.get? b = some o → h'.get? b = some o) → h.objs.size ≤ dx → dx ≠ x → h'.get? x = some { cls := .ref C, dict := some dx, data := .fields fv } →
      h'.Ns1 dx (fun y => if y = name then some v else none) → R (.ok (.ret .none)) ⟨h', g, d, tk', os⟩) :
    codeAny (model prog w) A (.call (.builtin "object.__setattr__") ⟨[.ref x, .str name tk, v], []⟩) R ⟨h, g, d, t, os⟩ := by
  have I : InstAt h x { cls := .ref C, data := .fields fv } C none := ⟨hx, rfl, rfl, trivial⟩
  have xs : x ≠ h.objs.size := Nat.ne_of_lt (Heap.lt_size hx)
  have S := F.store_object
  have under : Looks (model prog w) h (isInstance (.ref x) (.type "object")) true := I.type.andThen (looks_mroIn X (by unfold mroIn; rw [hcd, Option.bind_some, if_neg (by rw [some_]; decide), obj]))
  have mro : Looks (model prog w) h (mroOf (.ref C)) cd.mro := (looks_clsIn X hcd).andThen .now
  have none_ : Looks (model prog w) h (storeTaker? none) none := .now
  have data : Looks (model prog w) h (classData C) cd := looks_clsIn X hcd
  refine codeAny_call_builtin S.slot.plain S.entry (@check_slot (model prog w) _ _ ⟨h, g, d, t, os⟩ "object.__setattr__" "object" "__setattr__" (.ref x) [.str name tk, v] [] _ S.kind S.split under (S.args (.ref x) (.str name tk) v) ?_)
  rw [osa_eq, refuse_eq]
  refine wpAny_bind (wpAny_bind (I.type.at (wpAny_bind (mro.at ?_))))
  rw [pass]
  refine wpAny_pure (wpAny_bind (I.type.at (wpAny_bind ((looks_findIn X ha).at (wpAny_bind (none_.at ?_))))))
  show wpAny _ _ (storeInOwnDict (.ref x) (.ref C) (.str name tk) name v false) _ _ _
  obtain ⟨_, _, _, _, _, hd, _, _, _, _, _⟩ := cd
  dsimp only at hh
  subst hh
  unfold storeInOwnDict ownDictForStores
  repeat (first | with_reducible refine store_in_new ?_ ?_ | with_reducible refine wpAny_loadPart_at hx ?_ | with_reducible refine data.at ?_ | wp_step)
  · exact ⟨_, #[], _,
      (Heap.get?_update_ne _ _ _ _ xs.symm).trans (Heap.get?_push_at rfl rfl), rfl,
      fun e he => absurd he (by simp), fun _ => rfl⟩
  · intro h' tk' ns same
    have there : (h.push { cls := .type "dict", data := .dict #[] }).get? x = some { cls := .ref C, data := .fields fv } := Heap.get?_push_of_some _ hx
    refine out h' tk' h.objs.size ?_ (Nat.le_refl _) xs.symm ((same.2 x xs).trans (Heap.get?_update_self _ there rfl)) ns
    intro b o hb ho
    exact (same.2 b (Nat.ne_of_lt (Heap.lt_size ho))).trans ((Heap.get?_update_ne _ _ _ _ hb).trans (Heap.get?_push_of_some _ ho))
/-- the bound __init__ of the built-in called: new args, nothing else -/
theorem call_mw {nm q : PySem.Str} {C N : Addr} {bs bm bmB : List Value} {hdct : Bool} {sn : List PySem.Str} {sub : List Value} {ab : Bool} {col : Option Bool} {dd : Option Addr} {k0 k1 k2 k3 k5 : Option Value} {B newId i : String} (FB : ExcBaseFacts B newId i bmB) (lt : i.startsWith "lifetime." = false) {u e t0 : Addr} {rest : List Value} {Q : Value → Shared → Prop}
    (hC : h.get? C = some (excClassObj nm q C N bs bm hdct sn sub ab col dd k0 k1 k2 k3 k5 newId)) (he : h.get? e = some (excO C t0)) (hu : h.get? u = some (kxs_mw i e)) (hz : rest.length ≤ sizeLine)
    (out : ∀ h' t1, (∀ b o, b ≠ e → h.get? b = some o → h'.get? b = some o) → h'.get? e = some (excO C t1) → Q .none ⟨h', g, d, t, os⟩) :
    wpAny (model prog w) A (call (.ref u) rest) Q E ⟨h, g, d, t, os⟩ := by
  refine wpAny_call (codeAny_of_tree ?_)
  show wpAny _ A.in1 (callAny (.ref u) ⟨rest, []⟩) _ _ _
  simp only [callAny]
  refine wpAny_bind (wpAny_load hu ?_)
  simp only [show (Value.type "method-wrapper" == Value.type "method" || Value.type "method-wrapper" == Value.type "builtin_function_or_method" || Value.type "method-wrapper" == Value.type "method-wrapper") = true by decide, if_true]
  refine KFB.if_so (by decide) ?_
  refine wpAny_bind (ESX.check_bound FB hC he rfl ?_)
  refine wpAny_bind (wpAny_pure (wpAny_pure ?_))
  refine ⟨Code.quiet_builtin _ lt, codeAny_builtin FB.initEntry ?_⟩
  rw [Around.under_plainId FB.init.plain _]
  wp_walk
  refine out _ h.objs.size ?_ ?_
  · intro b o hb ho
    rw [Heap.get?_update_other _ _ (Ne.symm hb)]
    exact Heap.get?_push_of_some _ ho
  · rw [Heap.get?_update_self _ (Heap.get?_push_of_some _ he) rfl]
    rfl
/-- what may stand in the f-string -/
def Fmt (v : Value) : Prop := (∃ y t, v = .str y t ∧ y.length ≤ 100000) ∨ ∃ i t, v = .int i t ∧ i.natAbs.log2 < 1920
theorem ldN {M : Model} {s : Shared} {env : Env} {m : PySem.Str → Option Value} {y : PySem.Str} {pos : Pos} {v : Value} {Q : Value → Shared → Prop} (hk : env.scope.kind = .function) (hl : env.kindOf y = some .local) (hn : s.heap.Ns env.locals m) (hv : m y = some v) (hd : (y == ("__debug__" : PySem.Str)) = false) (q : Q v s) : wpAny M A (eval (.Name y pos) env) Q E s := wpAny_Name (wpAny_loadName_local hk hl hn hv q) hd
/-- {f} -/
theorem fmt_any {s : Shared} {env : Env} {m : PySem.Str → Option Value} {f : PySem.Str} {pf pv : Pos} {v : Value} {Q : Value → Shared → Prop} (hk : env.scope.kind = .function) (hl : env.kindOf f = some .local) (hn : s.heap.Ns env.locals m) (hv : m f = some v) (hd : (f == ("__debug__" : PySem.Str)) = false) (hF : Fmt v)
    (q : ∀ (y : PySem.Str) (t tk : Nat), y.length ≤ 100000 → Q (.str y t) { s with toks := tk }) : wpAny (model prog w) A (eval (.FormattedValue (.Name f pf) (-1) none pv) env) Q E s := by
  have hs : sizeLine = 16777216 := by decide
  refine wpAny_FormattedValue_plain (ldN hk hl hn hv hd ?_)
  rcases hF with ⟨y, t, rfl, l⟩ | ⟨i, t, rfl, l⟩
  · exact wpAny_formatField_str (q y t s.toks l) (q y _ _ l) (by omega)
  · refine wpAny_formatField_int l (q _ _ _ ?_)
    have e := int_text_length_le (a := i) (k := 1920) (by decide) l
    rw [PySem.ofString_length]
    omega
/-- f'a{f}' and f'a{f}b' -/
theorem js_any {s : Shared} {env : Env} {m : PySem.Str → Option Value} {f a b : PySem.Str} {j1 j2 : Nat} {pf pv pa pb pos : Pos} {v : Value} {parts : List Expr} {Q : Value → Shared → Prop} (hp : parts = [.Constant (.str a) j1 pa, .FormattedValue (.Name f pf) (-1) none pv] ∨ parts = [.Constant (.str a) j1 pa, .FormattedValue (.Name f pf) (-1) none pv, .Constant (.str b) j2 pb])
    (la : a.length ≤ 1000) (lb : b.length ≤ 1000) (hk : env.scope.kind = .function) (hl : env.kindOf f = some .local) (hn : s.heap.Ns env.locals m) (hv : m f = some v) (hd : (f == ("__debug__" : PySem.Str)) = false) (hF : Fmt v)
    (q : ∀ (y : PySem.Str) (t tk : Nat), Q (.str y t) { s with toks := tk }) : wpAny (model prog w) A (eval (.JoinedStr parts pos) env) Q E s := by
  have hs : sizeLine = 16777216 := by decide
  have e0 : (Str.empty ++ a).length = a.length := by rw [strLen_append]; exact Nat.zero_add _
  have step : ∀ {e : Expr} {es : List Expr}, evalEach (e :: es) env = eval e env :: evalEach es env := fun {e es} => by first | rfl | simp [evalEach]
  have stop : evalEach [] env = [] := by first | rfl | simp [evalEach]
  have add : ∀ x y : PySem.Str, (x ++ y).length = x.length + y.length := fun x y => by rw [strLen_append]
  rcases hp with rfl | rfl
  · refine wpAny_JoinedStr ?_
    rw [step, step, stop]
    refine Calls.Constant_str ⟨a, _, rfl, by omega, ?_⟩
    refine fmt_any (s := { s with toks := _ }) hk hl hn hv hd hF fun y t tk ly => ⟨y, t, rfl, by rw [add]; omega, ?_⟩
    exact ⟨by rw [add]; omega, q _ _ _⟩
  · refine wpAny_JoinedStr ?_
    rw [step, step, step, stop]
    refine Calls.Constant_str ⟨a, _, rfl, by omega, ?_⟩
    refine fmt_any (s := { s with toks := _ }) hk hl hn hv hd hF fun y t tk ly => ⟨y, t, rfl, by rw [add]; omega, ?_⟩
    refine Calls.Constant_str ⟨b, _, rfl, by rw [add, add]; omega, ?_⟩
    exact ⟨by rw [add, add]; omega, q _ _ _⟩
end
end SH

set_option Elab.async false
set_option linter.all false
set_option maxRecDepth 100000
set_option maxHeartbeats 2000000
namespace SH
open PySem PySem.W PySem.Calls PySem.Spec PyProof.Rows PySem.HandSPX
/-! ### the text of such an __init__ -/
def supA (f : PySem.Str) (p1 p2 : Pos) : Arguments := { posonlyargs := [], args := [{ arg := "self", annotation := none, pos := p1 }, { arg := f, annotation := none, pos := p2 }], vararg := none, kwonlyargs := [], kw_defaults := [], kwarg := none, defaults := [] }
def supB (f : PySem.Str) (js : List Expr) (p0 p1 p2 p3 p4 p5 q1 q2 q3 q4 : Pos) : List Stmt :=
  [.Expr (.Call (.Attribute (.Call (.Name "super" p0) [] [] p1) "__init__" p2) [.JoinedStr js p3] [] p4) p5, .Assign [.Attribute (.Name "self" q1) f q2] (.Name f q3) q4]
def supS (f : PySem.Str) : Scope := { kind := .function, names := [(PySem.Str.ofString "self", .local), (f, .local), (PySem.Str.ofString "__class__", .free), (PySem.Str.ofString "super", .globalImplicit)], isGenerator := false, isCoroutine := false, more := [] }
/-- what the written part says of such a class, at C, and of its __init__, at fI; B the built-in that it comes of -/
structure SupC (prog : Program) (K : Frag) (mg : PySem.Str → Option Value) (x f : PySem.Str) (C fI : Addr) (B newId i : String) (bmB : List Value) : Prop where
  gC : mg x = some (.ref C)
  FB : ExcBaseFacts B newId i bmB
  KF : KxsFacts B i
  lt : i.startsWith "lifetime." = false
  cls : ∃ nm q N bs bm sn sub ab col dd k0 k1 k2 k3 k5, K.lookup C = some (excClassObj nm q C N bs bm true sn sub ab col dd k0 k1 k2 k3 k5 newId) ∧ (∀ X : String, bm.contains (.type X) = bmB.contains (.type X)) ∧ (∀ self : Value, refuseLoop self "__setattr__" bm = pure ()) ∧ alongIn K "__init__" bm = some (some (.builtin i)) ∧ bm.contains (.type "object") = true
  sa : findIn K (.ref C) "__setattr__" = some (some (.builtin "object.__setattr__"))
  noF : findIn K (.ref C) f = some none
  iC : findIn K (.ref C) "__init__" = some (some (.ref fI))
  tC : typeIn K (.ref fI) = some (.type "function")
  kC : keepIn K (.ref C) = true
  exC : subIn K (.ref C) (.type "BaseException") = some true
  tyC : typeIn K (.ref C) = some (.type "type")
  hB : subIn K (.ref C) (.type B) = some true
  op : nsIn K cStatics "thirdparty.any" = some none
  sup : mg "super" = none
  top : (prog.main.scope.names.lookup ("super" : PySem.Str)).isSome = false
  self : (f == ("self" : PySem.Str)) = false
  dbg : (f == ("__debug__" : PySem.Str)) = false
  n3 : (supS f).names.lookup ("super" : PySem.Str) = some .globalImplicit
  n4 : (supS f).names.lookup ("__class__" : PySem.Str) = some .free
  fn : ∃ (oc : Value) (od : Option Addr) (dV kV doc pm : Value) (an : Option Addr) (cda : Addr) (ct : Value) (osl : Array (Option Value)) (cc : Addr) (q : PySem.Str) (js : List Expr) (p1 p2 r0 r1 r2 r3 r4 r5 q1 q2 q3 q4 : Pos),
    K.lookup fI = some ⟨oc, od, .func (ksFn "__init__" q (supA f p1 p2) (supB f js r0 r1 r2 r3 r4 r5 q1 q2 q3 q4) (supS f) dV kV doc pm an (.ref cda) ct cc), osl⟩ ∧ codeIn K (.ref cda) q = true ∧ (r2.endLine == r4.line) = true ∧ (∀ u v : Value, bindArgs (ksFn "__init__" q (supA f p1 p2) (supB f js r0 r1 r2 r3 r4 r5 q1 q2 q3 q4) (supS f) dV kV doc pm an (.ref cda) ct cc) ⟨[u, v], []⟩ = pure [(PySem.Str.ofString "self", u), (f, v)]) ∧
    (∃ (ccl : Value) (cdd : Option Addr) (vs : Array Value) (ccs : Array (Option Value)) (file : PySem.Str) (tf : Tok), K.lookup cda = some ⟨ccl, cdd, .fields vs, ccs⟩ ∧ vs[2]? = some (.str file tf) ∧ ((prog.main.file : PySem.Str) == file) = true) ∧
    (∃ (cl : Value) (cld : Option Addr) (csl : Array (Option Value)), K.lookup cc = some ⟨cl, cld, .cell (some (.ref C)), csl⟩) ∧
    ∃ (a b : PySem.Str) (j1 j2 : Nat) (pf pv pa pb : Pos), a.length ≤ 1000 ∧ b.length ≤ 1000 ∧ (js = [.Constant (.str a) j1 pa, .FormattedValue (.Name f pf) (-1) none pv] ∨ js = [.Constant (.str a) j1 pa, .FormattedValue (.Name f pf) (-1) none pv, .Constant (.str b) j2 pb])
/-- what __init__ leaves of a fresh error at x -/
structure SupEnd (h h' : Heap) (x C dx t1 : Addr) (f : PySem.Str) (v : Value) : Prop where
  keep : ∀ b o, b ≠ x → h.get? b = some o → h'.get? b = some o
  obj : h'.get? x = some { cls := .ref C, dict := some dx, data := .fields #[.ref t1, .none, .none, .none, .bool false, .none] }
  dbig : h.objs.size ≤ dx
  dne : dx ≠ x
  ns : h'.Ns1 dx (fun y => if y = f then some v else none)
section
variable {prog : Program} {w : World} {A : Around} {E : Value → Shared → Prop} {R : Result → Shared → Prop} {s : Shared} {K : Frag} {mg mb : PySem.Str → Option Value} {x f : PySem.Str} {C fI : Addr} {B newId i : String} {bmB : List Value}
theorem sup_init (T : SupC prog K mg x f C fI B newId i bmB) {e t0 : Addr} {v : Value} (X : K.In s.heap) (gl : s.heap.Ns mainGlobals mg) (bl : s.heap.Ns builtinsNs mb) (boot : mb "super" = some (.type "super")) (lim : s.heap.NoLimit) (he : s.heap.get? e = some (excO C t0)) (new : K.lookup e = none) (hF : Fmt v) (room : A.depth < recursionLimit)
    (out : ∀ h' tk dx t1, SupEnd s.heap h' e C dx t1 f v → R (.ok (.ret .none)) { s with heap := h', toks := tk }) : codeAny (model prog w) A (.call (.ref fI) ⟨[.ref e, v], []⟩) R s := by
  obtain ⟨oc, od, dV, kV, doc, pm, an, cda, ct, osl, cc, q, js, p1, p2, r0, r1, r2, r3, r4, r5, q1, q2, q3, q4, lk, hcd, hline, hbind, ⟨ccl, cdd, vs, ccs, file, tf, lc, hvs, hfile⟩, ⟨cl, cld, csl, lcell⟩, a, b, j1, j2, pf, pv, pa, pb, la, lb, hjs⟩ := T.fn
  obtain ⟨nm, qn, N, bs, bm, sn, sub, ab, col, dd, k0, k1, k2, k3, k5, lC, hT, pass, along, obj⟩ := T.cls
  have hcl : clsIn K C = some { name := nm, bases := bs, mro := .ref C :: bm, ns := N, qualname := qn, hasDict := true, slotNames := sn, subclasses := sub, abstract := ab, collection := col, hasDel := false } := by unfold clsIn; rw [lC] <;> rfl
  have l1 : (supS f).names.lookup ("self" : PySem.Str) = some .local := by simp [supS, List.lookup]
  have l2 : (supS f).names.lookup f = some .local := by
    simp only [supS, List.lookup, T.self]
    simp
  refine ks_codeAny_call_defAt (fd := ksFn "__init__" q (supA f p1 p2) (supB f js r0 r1 r2 r3 r4 r5 q1 q2 q3 q4) (supS f) dV kV doc pm an (.ref cda) ct cc) (binds := [(PySem.Str.ofString "self", .ref e), (f, v)]) room (X _ _ lk) rfl lim (codeRec_of X hcd) rfl (BindsTo.of_eq (hbind _ _)) ?_ ?_ (fun h₁ ns k => ?_)
  · intro y hy
    simp [supS] at hy
    rcases hy with rfl | rfl | rfl | rfl <;> (intro z; cases z)
  · intro y hy
    simp at hy
    rcases hy with rfl | rfl
    · exact l1
    · exact l2
  have hn : h₁.Ns s.heap.objs.size (fun y => [(f, v), (PySem.Str.ofString "self", Value.ref e)].lookup y) := ns
  have v1 : [(f, v), (PySem.Str.ofString "self", Value.ref e)].lookup f = some v := by simp [List.lookup]
  have v2 : [(f, v), (PySem.Str.ofString "self", Value.ref e)].lookup (PySem.Str.ofString "self") = some (Value.ref e) := by
    have : (PySem.Str.ofString "self" == f) = false := by
      have z := T.self
      rw [beq_eq_false_iff_ne] at z ⊢
      exact fun y => z y.symm
    simp [List.lookup, this]
  have X₁ : K.In h₁ := X.keeps k
  have he₁ := k _ _ he
  have nL : s.heap.objs.size ≠ e := Nat.ne_of_gt (Heap.lt_size he)
  obtain ⟨hp, g, d, t, os⟩ := s
  dsimp only at *
  show _root_.PySem.wpAt _ _ _ (execs (supB f js r0 r1 r2 r3 r4 r5 q1 q2 q3 q4) _) _ _ _
  unfold supB
  refine ks_wpAt_execs_cons (ks_wpAt_Expr_any (ks_wpAt_MethodCall (pl := pure false) ?_ (by
    rw [arm_eval_Call]
    unfold methodCall methodCallPos
    rw [hline]
    simp only [Bool.or_true, if_true, pure_bind]
    rfl)))
  refine ks_wpAt_super_base T.n3 T.n4 (by decide) rfl (X₁ _ _ lk) rfl rfl rfl (X₁ _ _ lc) rfl hvs hfile T.top ?_
  refine ks_loadName_global rfl T.n3 (loadGlobal_builtin (gl.keeps k) T.sup (bl.keeps k) boot ⟨rfl, ?_⟩)
  refine wpAny_loadName_free rfl T.n4 rfl ⟨_, X₁ _ _ lcell, rfl⟩ ?_
  refine wpAny_loadName_local rfl l1 hn v2 ?_
  have oC := X₁ _ _ lC
  refine ks_wpAny_isType_cls oC rfl ⟨rfl, ?_⟩
  have hself : mroIn K C (.ref C) = some true := by
    unfold mroIn
    rw [hcl]
    simp
  have eC : e ≠ C := fun z => by
    rw [z, lC] at new
    cases new
  refine ks_wpAny_call_super oC rfl he₁ rfl (fun c z => by cases z) (looks_mroIn X₁ hself) (fun h₂ so k₂ => ?_)
  have X₂ : K.In h₂ := X₁.keeps k₂
  have he₂ := k₂ _ _ he₁
  have I₂ : InstAt h₂ e (excO C t0) C none := ⟨he₂, rfl, rfl, trivial⟩
  have mro₂ : Looks (model prog w) h₂ (mroOf (.ref C)) (.ref C :: bm) := (looks_clsIn X₂ hcl).andThen .now
  refine kxs_getMethod T.KF so (looks_opaque X₂ T.op) mro₂ (ESX.drop_own C bm) X₂ along (I₂.type.andThen (looks_subIn X₂ T.hB)) eC (by decide) ?_
  -- the text, and the call
  have k₃ : ∀ b o, h₂.get? b = some o → (h₂.push (kxs_mw i e)).get? b = some o := fun b o z => Heap.get?_push_of_some _ z
  have hu : (h₂.push (kxs_mw i e)).get? h₂.objs.size = some (kxs_mw i e) := Heap.get?_push_at rfl rfl
  refine kxs_callWith (i := i) (x := e) (by rfl) ?_
  refine evalArgs_plain ?_
  refine Calls.spliced_cons ?_
  refine js_any (pos := r3) (f := f) (v := v) (m := fun y => [(f, v), (PySem.Str.ofString "self", Value.ref e)].lookup y) hjs la lb (by rfl) (by exact l2) (hn.keeps fun b o z => k₃ b o (k₂ b o z)) v1 T.dbg hF fun y ty tk => ?_
  refine Calls.spliced_nil ⟨hu, ?_⟩
  refine call_mw T.FB T.lt (k₃ _ _ (k₂ _ _ oC)) (k₃ _ _ he₂) hu (by show 1 ≤ sizeLine; decide) fun h₄ t1 k₄ he₄ => ?_
  -- self.f = f
  have k14 : ∀ b o, b ≠ e → h₁.get? b = some o → h₄.get? b = some o := fun b o ne z => k₄ b o ne (k₃ b o (k₂ b o z))
  have X₄ : K.In h₄ := fun b o z => k14 b o (fun y => by rw [y, new] at z; cases z) (X₁ b o z)
  have hn₄ : h₄.Ns hp.objs.size (fun y => [(f, v), (PySem.Str.ofString "self", Value.ref e)].lookup y) := by
    obtain ⟨o, es, ep, z, zd, zr⟩ := hn
    exact ⟨o, es, ep, k14 _ _ nL z, zd, zr⟩
  refine ks_wpAt_execs_cons (ks_wpAt_Assign_Attr (wpAt_of_wpAny ?_))
  refine ldN (by rfl) (by exact l2) hn₄ v1 T.dbg ?_
  refine ldN (by rfl) (by exact l1) hn₄ v2 (by decide) ?_
  refine set_plain X₄ (ox := excO C t1) (od := none) ⟨he₄, rfl, rfl, trivial⟩ T.sa ?_
  refine osaB X₄ he₄ hcl rfl (by show (Value.ref C :: bm).contains (.type "object") = true; rw [List.contains_cons, obj, Bool.or_true]) (fun self => by rw [refuseLoop_ref]; exact pass self) rfl T.noF (fun h₅ tk₅ dx k₅ dn dne hx₅ hn₅ => ?_)
  refine wpAt_of_wpAny (wpAny_execs_nil ?_)
  have z := hn₄.lt
  have z' : hp.objs.size ≤ dx := Nat.le_trans (Nat.le_of_lt z) dn
  exact out h₅ tk₅ dx t1 ⟨fun b o ne y => k₅ b o ne (k14 b o ne (k b o y)), hx₅, z', dne, hn₅⟩
/-- a made error of this kind -/
structure SupMade (h h' : Heap) (e C d : Addr) (f : PySem.Str) (v : Value) : Prop where
  keep : ∀ b o, h.get? b = some o → h'.get? b = some o
  new : h.objs.size ≤ e
  obj : ∃ oe vs, h'.get? e = some oe ∧ oe.cls = .ref C ∧ oe.dict = some d ∧ oe.data = .fields vs ∧ vs[1]? = some .none
  dbig : h.objs.size ≤ d
  dne : d ≠ e
  ns : h'.Ns1 d (fun y => if y = f then some v else none)
theorem sup_made (T : SupC prog K mg x f C fI B newId i bmB) {v : Value} (X : K.In s.heap) (gl : s.heap.Ns mainGlobals mg) (bl : s.heap.Ns builtinsNs mb) (boot : mb "super" = some (.type "super")) (lim : s.heap.NoLimit) (hF : Fmt v) (room : A.depth + 1 < recursionLimit)
    (out : ∀ h' tk e d, SupMade s.heap h' e C d f v → R (.ok (.ret (.ref e))) { s with heap := h', toks := tk }) : codeAny (model prog w) A (.call (.ref C) ⟨[v], []⟩) R s := by
  obtain ⟨nm, qn, N, bs, bm, sn, sub, ab, col, dd, k0, k1, k2, k3, k5, lC, hT, pass, along, obj⟩ := T.cls
  obtain ⟨hp, g, dr, tk, os⟩ := s
  have kk : ∀ b o, hp.get? b = some o → ((hp.push (kdv_tup [v])).push (excO C hp.objs.size)).get? b = some o := fun b o z => Heap.get?_push_of_some _ (Heap.get?_push_of_some _ z)
  have there : ((hp.push (kdv_tup [v])).push (excO C hp.objs.size)).get? (hp.objs.size + 1) = some (excO C hp.objs.size) := by heap_get
  have fresh : K.lookup (hp.objs.size + 1) = none := by
    cases z : K.lookup (hp.objs.size + 1) with
    | none => rfl
    | some o =>
      have y : hp.objs.size + 1 < hp.objs.size := Heap.lt_size (X _ _ z)
      exact absurd (Nat.lt_of_succ_lt y) (Nat.lt_irrefl _)
  refine call_own T.FB hT (X _ _ lC) (looks_findIn X T.iC) (fun self => bind_fn X self T.tC) (by show 1 ≤ sizeLine; decide) ?_
  refine sup_init (s := ⟨(hp.push (kdv_tup [v])).push (excO C hp.objs.size), g, dr, tk, os⟩) T (X.keeps kk) (gl.keeps kk) (bl.keeps kk) boot (lim.keeps kk) there fresh hF room fun h' tk' dx t1 D => ?_
  have big : hp.objs.size + 1 + 1 ≤ dx := by
    have y := D.dbig
    rw [Heap.size_push, Heap.size_push] at y
    exact y
  refine ⟨rfl, out h' tk' (hp.objs.size + 1) dx ⟨fun b o y => D.keep b o (Nat.ne_of_lt (Nat.lt_succ_of_lt (Heap.lt_size y))) (kk b o y), Nat.le_succ _, ⟨_, _, D.obj, rfl, rfl, rfl, rfl⟩, ?_, D.dne, D.ns⟩⟩
  show hp.objs.size ≤ dx
  omega
end
end SH

set_option Elab.async false
set_option linter.all false
set_option maxRecDepth 100000
set_option maxHeartbeats 2000000
/-! raise X(e), X such an error, as a rule. -/
namespace SH
open PySem PySem.Spec PyProof.Rows L2
/-- what may be told in its text -/
def FmtV (v : V) : Prop := (∃ y : PySem.Str, v = .str y ∧ y.length ≤ 100000) ∨ ∃ i : Int, v = .int i ∧ i.natAbs.log2 < 1920
theorem FmtV.fmt {v : V} {u : Value} (h : FmtV v) (r : RelV v u) : Fmt u := by
  rcases h with ⟨y, rfl, l⟩ | ⟨i, rfl, l⟩
  · obtain ⟨t, rfl⟩ := r
    exact .inl ⟨y, t, rfl, l⟩
  · obtain ⟨t, rfl⟩ := r
    exact .inr ⟨i, t, rfl, l⟩
section
variable {X : Cx} {x f : PySem.Str} {C fI : Addr} {B newId i : String} {bmB : List Value}
/-- X(e) -/
def tMkS (C : Addr) (f : PySem.Str) (ta : TA) : L2.St → Hp → XK → Prop := fun σ H Q => ta σ H fun vs H1 => ∃ v, vs = [v] ∧ FmtV v ∧ ∀ d, H1 d = none → Q (.ref C) (some d) (upd H1 d (.xd [(f, v)]))
theorem pmk_sup {a : Expr} {ta : TA} {p pos : Pos} {k : Nat} (T : SupC X.prog X.K X.mg x f C fI B newId i bmB) (hr : Room k X.A) (ha : PA X [a] ta) (hg : Gl X x) (hdb : (x == ("__debug__" : PySem.Str)) = false := by decide)
    (he : starEach (a :: []) X.env = (false, eval a X.env) :: starEach [] X.env := by rfl) (hpl : (backTo pos (starEach [] X.env)).any (·.1) = false := by rfl) :
    PMk X (.Call (.Name x p) [a] [] pos) (tMkS C f ta) := by
  intro pins s σ H Q I h
  refine wpAny_Call_Name_kw (ld_glob I hg T.gC ?_ hdb)
  refine PySem.W.callWith_K (h₀ := X.base) I.ok.mod.kin T.kC (thn (ha.run pos pins s σ H _ I h) ?_) he hpl
  rintro us s1 ⟨vs, H1, I1, r1, v, rfl, fv, q1⟩
  refine ⟨I1.kIn, ?_⟩
  obtain ⟨u, rfl, ru⟩ := vals1 r1
  show wpAny _ _ (call (.ref C) [u]) _ _ _
  have lim := I1.nolimit
  have gl := I1.ok.mod.glob.keeps I1.bk
  obtain ⟨mb, bl0, boot⟩ := I1.ok.mod.blt
  have bl := bl0.keeps I1.bk
  have sup : mb "super" = some (.type "super") := (boot _ (by decide)).trans (by decide +kernel)
  have kIn := I1.kIn
  obtain ⟨hp, g, dr, tk, os⟩ := s1
  refine wpAny_call (sup_made T kIn gl bl sup lim (fv.fmt ru) (by have := hr.dp; omega) fun h' tk' e d M => ?_)
  show MkP X pins σ Q (.ref e) ⟨h', g, dr, tk', os⟩
  obtain ⟨oe, vs, hoe, hc, hd, hdat, h1⟩ := M.obj
  have hns := M.ns
  -- all but the error itself
  obtain ⟨G', g1, g2⟩ := restrict h' fun b => decide (b ≠ e)
  have same : ∀ b, b ≠ e → G'.get? b = h'.get? b := fun b hb => g1 b (decide_eq_true hb)
  have gone : G'.get? e = none := g2 e (by simp)
  have old : ∀ b o, hp.get? b = some o → G'.get? b = some o := fun b o z => (same b (Nat.ne_of_lt (Nat.lt_of_lt_of_le (Heap.lt_size z) M.new))).trans (M.keep b o z)
  have ob : ObjOk X.prog X.w (upd H1 d (.xd [(f, v)])) G' d (.xd [(f, v)]) := ⟨_, hns.at (fun o z => (same d M.dne).trans z), relO_put (fs := []) ru fun _ => True.intro⟩
  have J : L2.Inv X pins σ (upd H1 d (.xd [(f, v)])) ⟨G', g, dr, tk', os⟩ := I1.laid (t' := tk') old M.dbig ob
  refine ⟨e, oe, vs, ⟨G', g, dr, tk', os⟩, _, .ref C, some d, rfl, J, ?_, gone, hoe, ⟨hc, hd⟩, hdat, h1, ?_, rfl, I1.bare, raises_own T.exC T.tyC, q1 d (I1.hok.fresh M.dbig)⟩
  · intro b o z
    by_cases hb : b = e
    · rw [hb] at z
      have z' : G'.get? e = some o := z
      rw [gone] at z'
      cases z'
    · exact (same b hb).symm.trans z
  · rw [upd_ne (Ne.symm M.dne)]
    exact I1.hok.fresh M.new
/-- raise X(e) -/
def tRaiseS (C : Addr) (f : PySem.Str) (W : WX) (ta : TA) : TS := fun _ σ H => tMkS C f ta σ H fun cls d H' => W cls d σ H'
theorem ps_raiseS {a : Expr} {ta : TA} {W : WX} {p pos pos2 : Pos} {k : Nat} (hc : X.calm = true) (T : SupC X.prog X.K X.mg x f C fI B newId i bmB) (hr : Room k X.A) (tk : Takes X W) (ha : PA X [a] ta) (hg : Gl X x) (hdb : (x == ("__debug__" : PySem.Str)) = false := by decide)
    (he : starEach (a :: []) X.env = (false, eval a X.env) :: starEach [] X.env := by rfl) (hpl : (backTo pos (starEach [] X.env)).any (·.1) = false := by rfl) :
    PS X (.Raise (some (.Call (.Name x p) [a] [] pos)) none pos2) (tRaiseS C f W ta) := ps_raise hc tk (pmk_sup T hr ha hg hdb he hpl)
end
end SH

set_option Elab.async false
set_option linter.all false
set_option maxRecDepth 100000
set_option maxHeartbeats 2000000
/-! Defs that are handed a caught error, within an except suite; isinstance of it there. -/
namespace SH
open PySem PySem.Spec PyProof.Rows L2
/-- a def's promise where p's object, an error, stands in the state and may be handed -/
structure FnE (P : Program) (w : World) (K : PySem.W.Frag) (mg : PySem.Str → Option Value) (base : Heap) (k : Nat) (f : Addr) (fd : FuncData) (ps : List PySem.Str) (sp : Addr → Value → Option Addr → Sp) : Prop where
  len : ∀ a cls d vs H Q E, sp a cls d vs H Q E → vs.length = ps.length
  run : ∀ (A : Around) (outer : List Env) (s : Shared) (H : Hp) (args : Args) (us : List Value) (vs : List V) (Q : VK) (E : XK) (p : Addr × Obj) (cls : Value) (d : Option Addr), L2H.RoomH k A → L2H.PinOk outer H s p → Zc cls d p.2 → (∃ vs, p.2.data = .fields vs) → Env0 P w K mg base A outer s H →
    BindsTo s fd args (ps.zip us) → Vals vs us → sp p.1 cls d vs H Q E → codeAny (model P w) A (.call (.ref f) args) (CR CX0 outer P w H s Q E) s
section
variable {P : Program} {w : World} {K : PySem.W.Frag} {mg : PySem.Str → Option Value} {base : Heap}
theorem okE {x qual : PySem.Str} {st : Stmt} {f : Addr} {fd : FuncData} {N ps : List PySem.Str} {k : Nat} {sp : Addr → Value → Option Addr → Sp} (F : Fun K x qual st f fd) (S : FnScope N ps (defScope st)) (len : ∀ a cls d vs H Q E, sp a cls d vs H Q E → vs.length = ps.length)
    (body : ∀ (cdv : Value) (A : Around) (outer : List Env) (s : Shared) (H : Hp) (vs : List V) (Q : VK) (E : XK) (p : Addr × Obj) (cls : Value) (d : Option Addr), Zc cls d p.2 → (∃ vs, p.2.data = .fields vs) → L2H.RoomH k (A.deeper (envOfC qual (defScope st) s.heap.objs.size f cdv)) → sp p.1 cls d vs H Q E →
      ∃ t, PSs (L2H.cxH CX0 P w K mg base N qual (defScope st) f cdv A outer s H E p) (defBody st) t ∧ t { nx := fun _ H' => Q .non H', rt := Q } (start N vs) H) : FnE P w K mg base (k + 1) f fd ps sp := by
  obtain ⟨oc, od, kV, doc, pm, an, cdv, ct, osl, rfl, look, code⟩ := F.ex
  refine ⟨len, ?_⟩
  intro A outer s H args us vs Q E p cls d room pin hz hf env bind rel want
  have many := len _ _ _ _ _ _ _ want
  have still : ∀ b o, base.get? b = some o → s.heap.get? b = some o := fun b o e => (env.bs b o e).1
  have inK := env.mod.kin.keeps still
  refine codeAny_call_function room.depth (inK _ _ look) rfl S.co S.gen rfl (PySem.W.codeRec_of inK code) (bind _ _ _ _ ?_)
  refine wpAny_newFunctionEnv_cells S.kind ?_ fun env' he s1 made => ?_
  · rintro ⟨n, v⟩ hy
    cases S.par n (List.of_mem_zip hy).1 with
    | inl q => exact .inl q
    | inr q => exact .inr ⟨q, PySem.W.cellsFrom_some _ _ _ (.inl q)⟩
  subst he
  refine ⟨(env.mod.nolimit.keeps still).keeps made.toInCall.keep, codeAny_func ?_⟩
  obtain ⟨t, ht, hq⟩ := body cdv A outer s H vs Q E p cls d hz hf (room.deeper _) want
  have begun : L2.Inv (L2H.cxH CX0 P w K mg base N qual (defScope st) f cdv A outer s H E p) [] (start N vs) H s1 := L2H.inv_startH S pin env many rel made
  refine wpAny_mono (ht.run [] s1 _ H _ begun hq) (fun fl s' out => ?_) fun _ _ out => out
  cases fl with
  | ret u => exact let ⟨v, _, H', J, rv, q⟩ := out; ⟨v, H', J.os, J.bare, J.base, J.hok, rv, q⟩
  | next => exact let ⟨_, H', J, q⟩ := out; ⟨V.non, H', J.os, J.bare, J.base, J.hok, rfl, q⟩
  | brk => exact (let ⟨_, _, _, q⟩ := out; False.elim q)
  | cont => exact (let ⟨_, _, _, q⟩ := out; False.elim q)
end
section
variable {X : Cx}
/-- f(e, ..) in a suite that holds the error at a -/
theorem pe_callE {k : Nat} {a : Addr} {oe : Obj} {pn : List (Addr × Obj)} {f : Addr} {fd : FuncData} {ps : List PySem.Str} {sp : Addr → Value → Option Addr → Sp} {cls : Value} {d : Option Addr} (hz : Zc cls d oe) (hf : ∃ vs, oe.data = .fields vs) {x : PySem.Str} {p pos : Pos} {e : Expr} {es : List Expr} {t : TA} (F : FnE X.prog X.w X.K X.mg X.base k f fd ps sp) (hr : L2H.RoomH k (X.suite a ((a, oe) :: pn)).A) (hg : Gl (X.suite a ((a, oe) :: pn)) x) (hm : X.mg x = some (.ref f)) (hk : PySem.W.keepIn X.K (.ref f) = true) (hb : Binds X.K fd ps [])
    (ha : PA (X.suite a ((a, oe) :: pn)) (e :: es) t) (hdb : (x == ("__debug__" : PySem.Str)) = false := by decide) (he : starEach (e :: es) X.env = (false, eval e X.env) :: starEach es X.env := by rfl) (hpl : (backTo pos (starEach es X.env)).any (·.1) = false := by rfl) :
    PE (X.suite a ((a, oe) :: pn)) (.Call (.Name x p) (e :: es) [] pos) (tCall (sp a cls d) [] E0 t) := by
  constructor
  intro pins s σ H Q I h
  refine wpAny_Call_Name_kw (ld_glob I hg hm ?_ hdb)
  refine PySem.W.callWith_K (h₀ := X.base) I.ok.mod.kin hk (thn (ha.run pos pins s σ H _ I h) ?_) he hpl
  rintro us s1 ⟨vs, H1, I1, r, q⟩
  rw [List.append_nil] at q
  have P1 := I1.pin (a, oe) (List.mem_append_left _ List.mem_cons_self)
  have pin : L2H.PinOk (X.suite a ((a, oe) :: pn)).stack H1 s1 (a, oe) := ⟨P1.1, P1.2.1, fun hm => (List.mem_cons.mp (I1.stkSub a hm)).elim P1.2.2.1 P1.2.2.2.1, P1.2.2.2.2⟩
  refine ⟨I1.kIn, wpAny_call (codeAny_mono (F.run _ _ s1 H1 ⟨us, []⟩ us vs Q E0 (a, oe) cls d hr pin hz hf I1.env0 ?_ r q) fun r' s' hq => ?_)⟩
  · have := hb s1 us I1.kIn (by rw [List.append_nil, ← r.length]; exact F.len _ _ _ _ _ _ _ q)
    rwa [List.append_nil] at this
  · cases r' with
    | error e => exact False.elim hq
    | ok fl =>
      cases fl with
      | ret u => exact I1.after hq
      | next => exact False.elim hq
      | brk => exact False.elim hq
      | cont => exact False.elim hq
/-- what the class of an error says, so that isinstance looks at it rightly -/
structure ErC (K : PySem.W.Frag) (D : Addr) : Prop where
  cl : (PySem.W.clsIn K D).isSome = true
  hg : PySem.W.findIn K (.ref D) "__getattribute__" = some (some (.builtin "BaseException.__getattribute__"))
  hk : PySem.W.findIn K (.ref D) "__getattr__" = some none
  hs : PySem.W.subIn K (.ref D) (.type "BaseException") = some true
  ha : PySem.W.findIn K (.ref D) "__class__" = some (some (.builtin "object.__class__"))
  hn : PySem.W.specialIn K (.builtin "object.__class__") "__get__" = some (some (.builtin "getset_descriptor.__get__"))
  ht : PySem.W.takesIn K (.builtin "object.__class__") = some true
  hm : PySem.W.mroIn K D (.type "object") = some true
/-- isinstance(e, c), e a pinned error of the class at D, its dict at dd -/
def rIsP (K : PySem.W.Frag) (D a dd : Addr) : List V → Hp → VK → Prop := fun xs H Q => ∃ (c : V) (cv : Value) (b : Bool) (fs : List (PySem.Str × V)), xs = [.ref a, c] ∧ (∀ u, RelV c u → u = cv) ∧ H dd = some (.xd fs) ∧ PySem.W.kitOne K (.ref D) cv = some b ∧ Q (.bl b) H
theorem call_isP {a D dd : Addr} {oe : Obj} (C : ErC X.K D) (hz : Zc (.ref D) (some dd) oe) (hf : ∃ vs, oe.data = .fields vs) (hp : (a, oe) ∈ X.pn) : CallR X (.builtin "isinstance") (rIsP X.K D a dd) := by
  intro pins s σ H xs us Q I r h
  obtain ⟨c, cv, b, fs, rfl, hcv, hd, e, q⟩ := h
  cases r with
  | cons rx rr =>
    cases rr with
    | cons rt rr =>
      cases rr
      cases rx
      have ec := hcv _ rt
      subst ec
      obtain ⟨hget, _⟩ := I.pin (a, oe) (List.mem_append.mpr (.inl hp))
      obtain ⟨mA, hns, _⟩ := (show ObjOk X.prog X.w H s.heap dd (.xd fs) from I.hok dd _ hd)
      obtain ⟨od, ho, _⟩ := lookIn_ns hns
      obtain ⟨vs, hv⟩ := hf
      have J : PySem.W.InstAt s.heap a oe D (some od) := ⟨hget, hz.1, by unfold PySem.W.notCls; rw [hv] <;> rfl, by rw [hz.2]; exact ho⟩
      exact PySem.W.kia_one (PySem.W.kitx_exc C.cl C.hg C.hk C.hs C.ha C.hn C.ht C.hm) I.kIn J e (fun z => nomatch z) fun tk => ⟨.bl b, H, I.kept (t' := tk) fun _ _ z => z, rfl, q⟩
/-- o.m(e, ..), what it raises wished for at the caller's slots -/
def tMethX (C : Addr) (m : PySem.Str) (sp : Sp) (E : L2.St → XK) (ta : TE) (t : TA) : TE := fun σ H Q => ta σ H fun x H1 => ∃ a dx fs, x = .ref a ∧ H1 a = some (.ins C dx fs) ∧ fs.lookup m = none ∧ t σ H1 fun vs H2 => sp (x :: vs) H2 Q (E σ)
theorem pe_methX {CX : CXT} {k : Nat} {f C : Addr} {fd : FuncData} {ps : List PySem.Str} {sp : Sp} {E : L2.St → XK} {m : PySem.Str} {pos apos : Pos} {e o : Expr} {es : List Expr} {ta : TE} {t : TA} {pl : Sem Bool} (he : PE X o ta) (c : Cls X.K C) (hm : Meth X.K C m f) (F : FnOk X.prog X.w X.K X.mg X.base CX k f fd ps sp) (hr : Room k X.A) (hb : Binds X.K fd ps []) (hx : ∀ σ, PassesAt CX X σ (E σ)) (ha : PA X (e :: es) t)
    (hst : starEach (e :: es) X.env = (false, eval e X.env) :: starEach es X.env := by rfl) (hpl : (backTo pos (starEach es X.env)).any (·.1) = false := by rfl)
    (ht : eval (.Call (.Attribute o m apos) (e :: es) [] pos) X.env = (do
      let ov ← eval o X.env
      standAt apos.atName
      let (f, first) ← holding [ov] (getMethod ov m pl)
      callWith pos f first (backTo pos (starEach (e :: es) X.env)) (backToKw pos (keywordEach [] X.env))) := by rfl) :
    PE X (.Call (.Attribute o m apos) (e :: es) [] pos) (tMethX C m sp E ta t) := by
  constructor
  intro pins s σ H Q I h
  refine PySem.W.methodCall_KW (pl := pl) (thn (he.run pins s σ H _ I h) ?_) ht
  rintro u s1 ⟨x, H1, I1, rx, a, dx, fs, rfl, ea, l, q⟩
  obtain rfl : u = Value.ref a := rx
  refine getmeth_ok I1 ea c hm l (PySem.W.callWith_K (first := [.ref a]) (h₀ := X.base) I.ok.mod.kin hm.kp (thn (ha.run pos pins s1 σ H1 _ I1 q) ?_) hst hpl)
  rintro us s2 ⟨vs, H2, I2, r, q2⟩
  exact ⟨I2.kIn, run_fnS (us := .ref a :: us) (vs := .ref a :: vs) F hr hb (hx σ) I2 (.cons rfl r) q2⟩
/-- xs.count(y), flat things -/
def rCntF (K : PySem.W.Frag) : V → List V → Hp → VK → Prop := fun x xs H Q => ∃ (a : Addr) (ys : List V) (y : V), x = .ref a ∧ xs = [y] ∧ SqL K H a ys ∧ flatV y = true ∧ ys.all flatV = true ∧ Q (.int (ys.countP (fun z => eqV z y) : Nat)) H
theorem countU {y : V} : ∀ {ys : List V} {its : List Value}, Vals ys its → ys.all flatV = true → its.countP (eqU y) = ys.countP fun z => eqV z y
  | _, _, .nil, _ => rfl
  | _, _, .cons r rs, h => by
    rw [List.all_cons, Bool.and_eq_true] at h
    rw [List.countP_cons, List.countP_cons, countU rs h.2, eqU_of r h.1]
theorem mt_countF : MtR X "list.count" (rCntF X.K) := by
  intro pins s σ H x xs v us Q I rx rxs h
  obtain ⟨a, ys, y, rfl, rfl, hs, fy, fys, q⟩ := h
  cases rx
  obtain ⟨u, rfl, ru⟩ := rxs.one
  obtain ⟨its, rv, ⟨⟨cls, dd, data, sl⟩, n, ho, hc, hdn, hd⟩, hlen⟩ := I.list hs
  simp only at hc hd
  subst hc hd
  refine call_meets PySem.F.slot_list_count ⟨_, ho, rfl⟩ PySem.F.entry_list_count (PySem.F.args_list_count_2 _ _) (SeqAt.list_countAt a its.toArray n dd sl u (eqU y)) ⟨ho, fun u' hu' => mem_eqAt ru fy rv fys u' (by simpa using hu'), ?_⟩
  refine ⟨.int (ys.countP (fun z => eqV z y) : Nat), H, I.tok _, ⟨s.toks, ?_⟩, q⟩
  show Value.int ((its.toArray.toList.countP (eqU y) : Nat) : Int) s.toks = _
  rw [List.toList_toArray, countU rv fys]
theorem unH {k : Nat} {A : Around} (r : L2H.RoomH k A) : A.units + 64 < cLine := by
  have := r.un
  omega
end
end SH

set_option Elab.async false
set_option linter.all false
set_option maxRecDepth 100000
set_option maxHeartbeats 2000000
/-! repr(x) by an own __repr__; bool(x) by an own __len__. -/
namespace SH
open PySem PySem.Spec PyProof.Rows L2
section
open PySem.W
variable {prog : Program} {w : World} {A : Around} {E : Value → Shared → Prop} {s : Shared} {K : Frag} {C x f : Addr} {ox : Obj} {od : Option Obj}
/-- len's own run -/
theorem run_len {Q : Value → Shared → Prop} (X : K.In s.heap) (I : InstAt s.heap x ox C od) (hs : findIn K (.ref C) "__len__" = some (some (.ref f))) (hf : isFn K (.ref f) = true)
    (h : wpAny (model prog w) A.in1 (call (.ref f) [.ref x]) (fun r s' => ∃ (n : Nat) (u : Tok), r = .int (n : Int) u ∧ n < 1000000 ∧ ∀ v tk, Q (.int (n : Int) v) { s' with toks := tk }) E s) : wpAny (model prog w) A (runValue (.builtin "len" ⟨[.ref x], []⟩)) Q E s := by
  refine wpAny_runValue (codeAny_builtin entry_len ?_)
  rw [Around.under_plainId plain_len _]
  unfold Builtin.«len»
  refine wpAny_bind (m := oneArg "len" _) (wpAny_pure ?_)
  refine wpAny_bind (m := callSpecial? (.ref x) (Str.ofString "__len__")) (special_fn X I hs (beq_iff_eq.mp hf) (wpAny_mono h (fun r s' hr => ?_) fun _ _ y => y))
  obtain ⟨n, u, rfl, lt, q⟩ := hr
  refine wpAny_bind (wpAny_holding (wpAny_pure ?_))
  refine wpAny_bind (wpAny_letGo ?_)
  show wpAny _ _ (if (n : Int) < 0 then _ else _) _ _ _
  rw [if_neg (by omega)]
  show wpAny _ _ (if (n : Int) ≥ 2 ^ 63 then _ else _) _ _ _
  rw [if_neg (by omega)]
  exact wpAny_bind (wpAny_mkInt (wpAny_pure (q _ _)))
theorem truth_len {Q : Bool → Shared → Prop} (X : K.In s.heap) (I : InstAt s.heap x ox C od) (hb : findIn K (.ref C) "__bool__" = some none) (hs : findIn K (.ref C) "__len__" = some (some (.ref f))) (hf : isFn K (.ref f) = true)
    (h : wpAny (model prog w) A.in1 (call (.ref f) [.ref x]) (fun r s' => ∃ (n : Nat) (u : Tok), r = .int (n : Int) u ∧ n < 1000000 ∧ ∀ tk, Q ((n : Int) != 0) { s' with toks := tk }) E s) : wpAny (model prog w) A (truthy (.ref x)) Q E s := by
  unfold truthy
  refine wpAny_bind (m := callSpecial? (.ref x) (Str.ofString "__bool__")) (wpAny_bind (wpAny_bind (I.type.here ((looks_findIn X hb).here (wpAny_pure ?_)))))
  refine wpAny_bind (wpAny_bind (I.type.here ((looks_findIn X hs).here ?_)))
  show wpAny _ _ (if (some (Value.ref f)).isNone = true then _ else _) _ _ _
  rw [if_neg (by simp)]
  refine wpAny_bind (run_len X I hs hf (wpAny_mono h (fun r s' hr => ?_) fun _ _ y => y))
  obtain ⟨n, u, rfl, lt, q⟩ := hr
  exact ⟨n, u, rfl, lt, fun v tk => wpAny_pure (q tk)⟩
theorem bool_len {Q : Value → Shared → Prop} (X : K.In s.heap) (I : InstAt s.heap x ox C od) (hb : findIn K (.ref C) "__bool__" = some none) (hs : findIn K (.ref C) "__len__" = some (some (.ref f))) (hf : isFn K (.ref f) = true)
    (h : wpAny (model prog w) A.in1.in1.in1 (call (.ref f) [.ref x]) (fun r s' => ∃ (n : Nat) (u : Tok), r = .int (n : Int) u ∧ n < 1000000 ∧ ∀ tk, Q (.bool ((n : Int) != 0)) { s' with toks := tk }) E s) : wpAny (model prog w) A (call (.type "bool") [.ref x]) Q E s := by
  refine callType_codes (T := "bool") (Bi := Builtin.«object.__init__») (Q₁ := fun r s₁ => ∃ y, r = .bool y ∧ Q r s₁) PySem.F.called_bool (PySem.F.typeCall_bool_1 _) PySem.F.entry_object_init ?_ ?_
  · refine codeAny_of_tree ?_
    show wpAny _ A.in1.in1 (do checkBuiltinCall "bool.__new__" ⟨[.type "bool", .ref x], []⟩; again (.builtin "bool.__new__" ⟨[.type "bool", .ref x], []⟩)) _ _ s
    refine wpAny_bind (wpAny_of_eq (PySem.F.newCall_bool_1 _) (wpAny_pure ⟨plainId_quiet (by decide +kernel) _, codeAny_builtin PySem.F.entry_bool_new ?_⟩))
    rw [Around.under_plainId (by decide +kernel) _]
    have f1 := PySem.F.conv_sub_bool
    have key : ∀ {R : Bool → Shared → Prop}, (∀ b s', Q (.bool b) s' → R b s') → wpAny (model prog w) A.in1.in1 (truthy (.ref x)) R E s := fun {R} k => truth_len X I hb hs hf (wpAny_mono h (fun r s' ⟨n, u, e, lt, q⟩ => ⟨n, u, e, lt, fun tk => k _ _ (q tk)⟩) fun _ _ y => y)
    obtain ⟨hp, g, d, tk, os⟩ := s
    unfold Builtin.«bool.__new__»
    repeat (any_goals (first | assumption | (with_reducible refine key fun b s' q => ?_) | wp_step))
    all_goals first | exact ⟨_, rfl, by assumption⟩ | skip
  · rintro o s₁ ⟨y, rfl, q⟩
    exact ⟨PySem.typeIs_bool _ _, PySem.F.args_object_init_2 _ _, object_init_meets PySem.F.called_bool.init.lookup PySem.F.called_bool.made (by decide) prog w A.in1 _ s₁ ⟨PySem.typeIs_bool _ _, rfl, q⟩⟩
end
section
variable {X : Cx}
/-- repr(x) by an own __repr__ -/
def rReprOwn (C : Addr) (sp : Sp) : List V → Hp → VK → Prop := fun xs H Q => ∃ (a dx : Addr) (fs : List (PySem.Str × V)), xs = [V.ref a] ∧ H a = some (.ins C dx fs) ∧ sp [.ref a] H (fun v H' => ∃ z, v = .str z ∧ Q v H') E0
theorem call_reprOwn {C g : Addr} {gd : FuncData} {n : Nat} {sp : Sp} (hs : PySem.W.findIn X.K (.ref C) "__repr__" = some (some (.ref g))) (hf : PySem.W.isFn X.K (.ref g) = true) (F : FnOk X.prog X.w X.K X.mg X.base CX0 n g gd ["self"] sp) (hb : Binds X.K gd ["self"] []) (hr : Room (n + 1) X.A) : CallR X (.builtin "repr") (rReprOwn C sp) := by
  intro pins s σ H xs us Q I r h
  obtain ⟨a, dx, fs, rfl, ha, q⟩ := h
  obtain ⟨u, rfl, ru⟩ := vals1 r
  cases ru
  obtain ⟨mA, om, _⟩ := ins_get I.hok ha
  obtain ⟨od, J, _⟩ := om.look
  obtain ⟨m, hF⟩ := I.fr
  have rm := hr.in1
  refine PySem.W.repr_K (by have := rm.un; omega) hF I.ok.mod.kin J hs hf (wpAny_call (codeAny_mono (F.run X.A.in1 X.stack s H ⟨[.ref a], []⟩ [.ref a] [.ref a] _ E0 rm I.env0.in1 (hb s [.ref a] I.kIn rfl) (.cons rfl .nil) q) fun r z hq => ?_))
  cases r with
  | error e => exact hq.elim
  | ok fl =>
    cases fl with
    | ret v =>
      obtain ⟨y, H', J2, ry, t, ey, fin⟩ := I.after hq
      subst ey
      obtain ⟨tk, rfl⟩ := (show ∃ tk, v = Value.str t tk from ry)
      exact ⟨.str t, H', J2, ⟨_, rfl⟩, fin⟩
    | _ => exact False.elim hq
/-- bool(x) by an own __len__ -/
def rBoolLen (C : Addr) (sp : Sp) : List V → Hp → VK → Prop := fun xs H Q => ∃ (a dx : Addr) (fs : List (PySem.Str × V)), xs = [V.ref a] ∧ H a = some (.ins C dx fs) ∧ sp [.ref a] H (fun v H' => ∃ n : Nat, v = .int (n : Int) ∧ n < 1000000 ∧ Q (.bl ((n : Int) != 0)) H') E0
theorem call_boolLen {C g : Addr} {gd : FuncData} {n : Nat} {sp : Sp} (hb0 : PySem.W.findIn X.K (.ref C) "__bool__" = some none) (hs : PySem.W.findIn X.K (.ref C) "__len__" = some (some (.ref g))) (hf : PySem.W.isFn X.K (.ref g) = true) (F : FnOk X.prog X.w X.K X.mg X.base CX0 n g gd ["self"] sp) (hb : Binds X.K gd ["self"] []) (hr : Room (n + 3) X.A) : CallR X (.type "bool") (rBoolLen C sp) := by
  intro pins s σ H xs us Q I r h
  obtain ⟨a, dx, fs, rfl, ha, q⟩ := h
  obtain ⟨u, rfl, ru⟩ := vals1 r
  cases ru
  obtain ⟨mA, om, _⟩ := ins_get I.hok ha
  obtain ⟨od, J, _⟩ := om.look
  have rm : Room n X.A.in1.in1.in1 := ((show Room (n + 2) X.A.in1 from Room.in1 hr).in1).in1
  refine bool_len I.kIn J hb0 hs hf (wpAny_call (codeAny_mono (F.run X.A.in1.in1.in1 X.stack s H ⟨[.ref a], []⟩ [.ref a] [.ref a] _ E0 rm I.env0.in1.in1.in1 (hb s [.ref a] I.kIn rfl) (.cons rfl .nil) q) fun r z hq => ?_))
  cases r with
  | error e => exact hq.elim
  | ok fl =>
    cases fl with
    | ret v =>
      obtain ⟨y, H', J2, ry, t, ey, lt, fin⟩ := I.after hq
      subst ey
      obtain ⟨tk, rfl⟩ := (show ∃ tk, v = Value.int t tk from ry)
      exact ⟨t, tk, rfl, lt, fun tk' => ⟨.bl ((t : Int) != 0), H', J2.tok tk', rfl, fin⟩⟩
    | _ => exact False.elim hq
end
end SH

set_option Elab.async false
set_option linter.all false
set_option maxRecDepth 100000
namespace SH
open PySem L2
/-! what expressions come to -/
abbrev sIsFut : Stmt := topS 69
abbrev sWorthOf : Stmt := topS 70
abbrev sAsNum : Stmt := topS 74
abbrev sCombine : Stmt := topS 76
abbrev sOperate : Stmt := topS 75
abbrev sReckon : Stmt := topS 72
abbrev sReckonN : Stmt := topS 73
theorem scIsFut : FnScope ["worth"] ["worth"] (defScope sIsFut) := ⟨rfl, rfl, rfl, by decide +kernel, rfl, by decide +kernel, by decide +kernel⟩
theorem scWorthOf : FnScope ["name", "worths"] ["name", "worths"] (defScope sWorthOf) := ⟨rfl, rfl, rfl, by decide +kernel, rfl, by decide +kernel, by decide +kernel⟩
theorem scAsNum : FnScope ["worth"] ["worth"] (defScope sAsNum) := ⟨rfl, rfl, rfl, by decide +kernel, rfl, by decide +kernel, by decide +kernel⟩
theorem scCombine : FnScope ["sign", "left", "right"] ["sign", "left", "right"] (defScope sCombine) := ⟨rfl, rfl, rfl, by decide +kernel, rfl, by decide +kernel, by decide +kernel⟩
theorem scOperate : FnScope ["sign", "left", "right", "number"] ["sign", "left", "right"] (defScope sOperate) := ⟨rfl, rfl, rfl, by decide +kernel, rfl, by decide +kernel, by decide +kernel⟩
theorem scReckon : FnScope ["tree", "worths", "sign", "left_tree", "right_tree", "left", "right"] ["tree", "worths"] (defScope sReckon) := ⟨rfl, rfl, rfl, by decide +kernel, rfl, by decide +kernel, by decide +kernel⟩
theorem scReckonN : FnScope ["tree", "worths"] ["tree", "worths"] (defScope sReckonN) := ⟨rfl, rfl, rfl, by decide +kernel, rfl, by decide +kernel, by decide +kernel⟩
/-- a def that raises passes on what the defs that it asks raise -/
theorem passX {X : Cx} {E : XK} (tk : Takes X fun cls d _ H => E cls d H) : Passes (L2.CX X.prog X.w) X E := fun pins σ H s e s' I h => passAt tk σ pins H s e s' I h
/-- a def that can be called, and may raise -/
structure FkX (P : Program) (w : World) (K : PySem.W.Frag) (mg : Str → Option Value) (base : Heap) (lv : Nat) (x : Str) (f : Addr) (fd : FuncData) (ps : List Str) (sp : Sp) : Prop where
  G : FnOk P w K mg base (L2.CX P w) lv f fd ps sp
  m : mg x = some (.ref f)
  k : PySem.W.keepIn K (.ref f) = true
  b : Binds K fd ps []
/-- the numbers of the module -/
structure Rk (mg : Str → Option Value) : Prop where
  noworth : Gi mg "NO_WORTH" (-1)
  nonum : Gi mg "NO_NUMBER" (-2)
  nofut : Gi mg "NO_FUTURE" (-3)
  great : Gi mg "TOO_GREAT" (-4)
  most : Gi mg "MOST_NUMBER" (1000000 ^ 5 - 1)
abbrev mostN : Nat := 999999999999999999999999999999
/-- what a name stands for: a number, or the future of the task at a path -/
inductive Wt where
  | num (i : Int)
  | fut (p : List Int)
def Wt.ok : Wt → Prop
  | .num i => i.natAbs ≤ mostN
  | .fut _ => True
def WtIn (H : Hp) : Wt → V → Prop
  | .num i, v => v = .int i
  | .fut p, v => ∃ a b, v = .ref a ∧ H a = some (.tup [.str "future", .ref b]) ∧ H b = some (.tup (p.map V.int))
theorem WtIn.same {H H' : Hp} (h : Same H H') : ∀ {x : Wt} {v : V}, WtIn H x v → WtIn H' x v
  | .num _, _, e => e
  | .fut _, _, ⟨a, b, e, h1, h2⟩ => ⟨a, b, e, h _ _ h1, h _ _ h2⟩
/-- what the names of a frame stand for -/
structure EnvIn (H : Hp) (d : Addr) (env : Str → Option Wt) : Prop where
  at_ : ∃ kvs : List (Key × V), H d = some (.dK kvs) ∧ ∀ nm : Str, (∀ x, env nm = some x → x.ok ∧ ∃ v, valV kvs (Sum.inr nm) = some v ∧ WtIn H x v) ∧ (env nm = none → valV kvs (Sum.inr nm) = none)
def asNum : Wt → Except Int Int
  | .num i => .ok i
  | .fut _ => .error (-2)
def Sg.calc : Sg → Int → Int → Int
  | .add, i, j => i + j
  | .sub, i, j => i - j
  | _, i, j => i * j
def Sg.run : Sg → Int → Int → Except Int Int
  | .lt, i, j => .ok (if decide (i < j) = true then 1 else 0)
  | .eq, i, j => .ok (if decide (i = j) = true then 1 else 0)
  | g, i, j => if (g.calc i j).natAbs ≤ mostN then .ok (g.calc i j) else .error (-4)
def Ex.ev (env : Str → Option Wt) : Ex → Except Int Wt
  | .num n => .ok (.num n)
  | .nam s => match env s with
    | some x => .ok x
    | none => .error (-1)
  | .op g l r => (l.ev env).bind fun a => (r.ev env).bind fun b => (asNum a).bind fun i => (asNum b).bind fun j => (g.run i j).bind fun n => .ok (.num n)
def Ex.evN (env : Str → Option Wt) (e : Ex) : Except Int Int := (e.ev env).bind asNum
/-- at most n deep, its numbers within bounds -/
def Ex.low : Nat → Ex → Prop
  | 0, _ => False
  | _ + 1, .num n => n.natAbs ≤ mostN
  | _ + 1, .nam _ => True
  | n + 1, .op _ l r => Ex.low n l ∧ Ex.low n r
theorem Sg.run_ok {g : Sg} {i j n : Int} (h : g.run i j = .ok n) : n.natAbs ≤ mostN := by
  cases g with
  | lt => cases h; split <;> decide
  | eq => cases h; split <;> decide
  | add =>
    change (if (Sg.calc .add i j).natAbs ≤ mostN then Except.ok (Sg.calc .add i j) else Except.error (-4)) = Except.ok n at h
    by_cases c : (Sg.calc .add i j).natAbs ≤ mostN
    · rw [if_pos c] at h
      cases h
      exact c
    · rw [if_neg c] at h
      cases h
  | sub =>
    change (if (Sg.calc .sub i j).natAbs ≤ mostN then Except.ok (Sg.calc .sub i j) else Except.error (-4)) = Except.ok n at h
    by_cases c : (Sg.calc .sub i j).natAbs ≤ mostN
    · rw [if_pos c] at h
      cases h
      exact c
    · rw [if_neg c] at h
      cases h
  | mul =>
    change (if (Sg.calc .mul i j).natAbs ≤ mostN then Except.ok (Sg.calc .mul i j) else Except.error (-4)) = Except.ok n at h
    by_cases c : (Sg.calc .mul i j).natAbs ≤ mostN
    · rw [if_pos c] at h
      cases h
      exact c
    · rw [if_neg c] at h
      cases h
theorem Ex.ev_ok {env : Str → Option Wt} (he : ∀ nm x, env nm = some x → x.ok) : ∀ (n : Nat) (e : Ex) (x : Wt), Ex.low n e → e.ev env = .ok x → x.ok
  | 0, _, _, h, _ => h.elim
  | n + 1, .num i, x, h, q => by cases q; exact h
  | n + 1, .nam s, x, _, q => by
    unfold Ex.ev at q
    split at q
    · cases q; exact he _ _ (by assumption)
    · cases q
  | n + 1, .op g l r, x, _, q => by
    unfold Ex.ev at q
    cases h1 : l.ev env with
    | error m => rw [h1] at q; cases q
    | ok a =>
      rw [h1] at q
      change (r.ev env).bind _ = _ at q
      cases h2 : r.ev env with
      | error m => rw [h2] at q; cases q
      | ok b =>
        rw [h2] at q
        change (asNum a).bind _ = _ at q
        cases h3 : asNum a with
        | error m => rw [h3] at q; cases q
        | ok i =>
          rw [h3] at q
          change (asNum b).bind _ = _ at q
          cases h4 : asNum b with
          | error m => rw [h4] at q; cases q
          | ok j =>
            rw [h4] at q
            change (g.run i j).bind _ = _ at q
            cases h5 : g.run i j with
            | error m => rw [h5] at q; cases q
            | ok k =>
              rw [h5] at q
              cases q
              exact Sg.run_ok h5
/-- Broken with that number, in any state that has it -/
def Brk (CB : Addr) (H : Hp) (E : XK) (n : Int) : Prop := ∀ x, H x = none → E (.ref CB) (some x) (upd H x (.xd [("number", .int n)]))
def OutW (CB : Addr) (H : Hp) (Q : VK) (E : XK) : Except Int Wt → Prop
  | .ok x => ∀ v, WtIn H x v → Q v H
  | .error n => Brk CB H E n
def OutI (CB : Addr) (H : Hp) (Q : VK) (E : XK) : Except Int Int → Prop
  | .ok i => Q (.int i) H
  | .error n => Brk CB H E n
def spIsFut : Sp := fun vs H Q _ => ∃ (v : V) (x : Wt), vs = [v] ∧ WtIn H x v ∧ Q (.bl (match x with | .num _ => false | .fut _ => true)) H
def spWorthOf (CB : Addr) : Sp := fun vs H Q E => ∃ (nm : Str) (d : Addr) (env : Str → Option Wt), vs = [.str nm, .ref d] ∧ EnvIn H d env ∧ OutW CB H Q E (Ex.ev env (.nam nm))
def spAsNum (CB : Addr) : Sp := fun vs H Q E => ∃ (v : V) (x : Wt), vs = [v] ∧ WtIn H x v ∧ OutI CB H Q E (asNum x)
def spCombine : Sp := fun vs H Q _ => ∃ (g : Sg) (i j : Int), vs = [.str g.txt, .int i, .int j] ∧ g ≠ .lt ∧ g ≠ .eq ∧ i.natAbs ≤ mostN ∧ j.natAbs ≤ mostN ∧ Q (.int (g.calc i j)) H
def spOperate (CB : Addr) : Sp := fun vs H Q E => ∃ (g : Sg) (i j : Int), vs = [.str g.txt, .int i, .int j] ∧ i.natAbs ≤ mostN ∧ j.natAbs ≤ mostN ∧ OutI CB H Q E (g.run i j)
def spReckon (CB : Addr) (n : Nat) : Sp := fun vs H Q E => ∃ (v : V) (d : Addr) (e : Ex) (env : Str → Option Wt), vs = [v, .ref d] ∧ TrIn H e v ∧ Ex.low n e ∧ EnvIn H d env ∧ OutW CB H Q E (e.ev env)
def spReckonN (CB : Addr) (n : Nat) : Sp := fun vs H Q E => ∃ (v : V) (d : Addr) (e : Ex) (env : Str → Option Wt), vs = [v, .ref d] ∧ TrIn H e v ∧ Ex.low n e ∧ EnvIn H d env ∧ OutI CB H Q E (e.evN env)
theorem logB {i : Int} (hi : i.natAbs ≤ mostN) : i.natAbs.log2 < 100 := by
  by_cases z : i.natAbs = 0
  · rw [z]; decide
  · exact (Nat.log2_lt z).mpr (Nat.lt_of_le_of_lt hi (by decide))
theorem mulB {i j : Int} (hi : i.natAbs ≤ mostN) (hj : j.natAbs ≤ mostN) : CMulW i j := by
  have h1 := logB hi
  have h2 := logB hj
  show i.natAbs.log2 + j.natAbs.log2 < 1000000
  omega
section
variable {P : Program} {w : World} {K : PySem.W.Frag} {mg : Str → Option Value} {base : Heap} {CB fB : Addr} {B newId i0 : String} {bmB : List Value}
theorem ok_isFut {f : Addr} {fd : FuncData} (F : Fun K "is_future" "is_future" sIsFut f fd) (T : Bi mg) (mt : mg "tuple" = none) : FnOk P w K mg base CX0 1 f fd ["worth"] spIsFut := by
  refine F.ok scIsFut (fun vs H Q E h => ?_) (fun cdv A outer s H vs Q E hr h => ?_)
  · obtain ⟨v, x, rfl, _⟩ := h
    rfl
  obtain ⟨v, x, rfl, hx, q⟩ := h
  refine ⟨_, (pss_one (ps_ret (pe_callB call_isi (by rfl) T.isinstance (by decide +kernel) (pa_cons (pv 0) (pa_cons (pe_bltn (v := .ty "tuple") (by rfl) mt (by decide +kernel) rfl) pa_nil))))), ?_⟩
  cases x with
  | num i =>
    cases hx
    exact ⟨_, rfl, _, _, _, _, false, rfl, .ty "tuple", .base (.int i), kit_ty (by decide +kernel), q⟩
  | fut p =>
    obtain ⟨a, b, rfl, ha, hb⟩ := hx
    exact ⟨_, rfl, _, _, _, _, true, rfl, .ty "tuple", .base (.tup ha), kit_ty (by decide +kernel), q⟩
theorem ok_worthOf {f : Addr} {fd : FuncData} (F : Fun K "worth_of" "worth_of" sWorthOf f fd) (TB : SupC P K mg "Broken" "number" CB fB B newId i0 bmB) (RK : Rk mg) : FnOk P w K mg base (L2.CX P w) 2 f fd ["name", "worths"] (spWorthOf CB) := by
  refine F.okX scWorthOf (fun vs H Q E h => ?_) (fun cdv A outer s H vs Q E hr h => ?_)
  · obtain ⟨nm, d, env, rfl, _⟩ := h
    rfl
  obtain ⟨nm, d, env, rfl, ⟨kvs, hd, hE⟩, q⟩ := h
  refine ⟨_, (pss_cons (ps_if (pt_cmp (pc_dnotin (hu_of hr) (pv 0) (pv 1)))
      (pss_one (ps_raiseS rfl TB hr (takes_of rfl rfl rfl rfl) (pa_cons (pe_gi RK.noworth) pa_nil) rfl))
      pss_nil)
    (pss_one (ps_ret (pe_dget (hu_of hr) (pv 1) (pv 0) (fun _ _ => rfl))))), ?_⟩
  have D : DGet H d (.str nm) (valV kvs (Sum.inr nm)) := DGet.k (k := Sum.inr nm) hd
  cases he : env nm with
  | none =>
    have e1 := (hE nm).2 he
    rw [e1] at D
    have q' : Brk CB H E (-1) := by
      have : Ex.ev env (.nam nm) = .error (-1) := by unfold Ex.ev; rw [he]
      rw [this] at q
      exact q
    refine ⟨_, rfl, _, rfl, d, _, rfl, D, _, rfl, ?_⟩
    refine iteT ?_
    exact ⟨_, rfl, .inr ⟨_, rfl, by decide +kernel⟩, q'⟩
  | some x =>
    obtain ⟨_, v, e1, hv⟩ := (hE nm).1 x he
    rw [e1] at D
    have q' : ∀ v, WtIn H x v → Q v H := by
      have : Ex.ev env (.nam nm) = .ok x := by unfold Ex.ev; rw [he]
      rw [this] at q
      exact q
    refine ⟨_, rfl, _, rfl, d, _, rfl, D, _, rfl, ?_⟩
    refine iteF ?_
    exact ⟨_, rfl, _, rfl, d, v, rfl, D, q' v hv⟩
theorem ok_asNum {f u : Addr} {fd ud : FuncData} (F : Fun K "as_number" "as_number" sAsNum f fd) (FU : Fk P w K mg base 1 "is_future" u ud ["worth"] spIsFut) (TB : SupC P K mg "Broken" "number" CB fB B newId i0 bmB) (RK : Rk mg) : FnOk P w K mg base (L2.CX P w) 2 f fd ["worth"] (spAsNum CB) := by
  refine F.okX scAsNum (fun vs H Q E h => ?_) (fun cdv A outer s H vs Q E hr h => ?_)
  · obtain ⟨v, x, rfl, _⟩ := h
    rfl
  obtain ⟨v, x, rfl, hx, q⟩ := h
  refine ⟨_, (pss_cons (ps_if (pt_val (pe_call FU.G (hr.mono (by omega)) (by rfl) FU.m FU.k FU.b .nil pass0 (pa_cons (pv 0) pa_nil)))
      (pss_one (ps_raiseS rfl TB hr (takes_of rfl rfl rfl rfl) (pa_cons (pe_gi RK.nonum) pa_nil) rfl))
      pss_nil)
    (pss_one (ps_ret (pv 0)))), ?_⟩
  refine ⟨_, rfl, v, x, rfl, hx, _, rfl, ?_⟩
  cases x with
  | num i =>
    cases hx
    exact iteF ⟨_, rfl, q⟩
  | fut p => exact iteT ⟨_, rfl, .inr ⟨_, rfl, by decide +kernel⟩, q⟩
theorem ok_combine {f : Addr} {fd : FuncData} (F : Fun K "combine" "combine" sCombine f fd) : FnOk P w K mg base CX0 1 f fd ["sign", "left", "right"] spCombine := by
  refine F.ok scCombine (fun vs H Q E h => ?_) (fun cdv A outer s H vs Q E hr h => ?_)
  · obtain ⟨g, i, j, rfl, _⟩ := h
    rfl
  obtain ⟨g, i, j, rfl, n1, n2, hi, hj, q⟩ := h
  refine ⟨_, (pss_cons (ps_if (pt_cmpR op_eq (pv 0) pe_str (nomark _))
      (pss_one (ps_ret (pe_op op_add (pv 1) (pv 2))))
      pss_nil)
    (pss_cons (ps_if (pt_cmpR op_eq (pv 0) pe_str (nomark _))
      (pss_one (ps_ret (pe_op op_sub (pv 1) (pv 2))))
      pss_nil)
    (pss_one (ps_ret (pe_op op_mulW (pv 1) (pv 2)))))), ?_⟩
  refine ⟨_, rfl, rfl, _, rfl, ?_⟩
  refine ite2 (fun c => ?_) (fun c => ?_)
  · cases g <;> first | exact absurd (V.str.inj (of_decide_eq_true c)) (by decide +kernel) | exact ⟨_, rfl, _, rfl, _, _, rfl, rfl, q⟩
  refine ⟨_, rfl, rfl, _, rfl, ?_⟩
  refine ite2 (fun c2 => ?_) (fun c2 => ?_)
  · cases g <;> first | exact absurd (V.str.inj (of_decide_eq_true c2)) (by decide +kernel) | exact ⟨_, rfl, _, rfl, _, _, rfl, rfl, q⟩
  cases g with
  | add => exact absurd (decide_eq_true rfl) c
  | sub => exact absurd (decide_eq_true rfl) c2
  | lt => exact absurd rfl n1
  | eq => exact absurd rfl n2
  | mul => exact ⟨_, rfl, _, rfl, _, _, rfl, rfl, mulB hi hj, q⟩
theorem ok_operate {f c : Addr} {fd cd : FuncData} (F : Fun K "operate" "operate" sOperate f fd) (CO : Fk P w K mg base 1 "combine" c cd ["sign", "left", "right"] spCombine) (TB : SupC P K mg "Broken" "number" CB fB B newId i0 bmB) (RK : Rk mg) (T : Bi mg) : FnOk P w K mg base (L2.CX P w) 2 f fd ["sign", "left", "right"] (spOperate CB) := by
  refine F.okX scOperate (fun vs H Q E h => ?_) (fun cdv A outer s H vs Q E hr h => ?_)
  · obtain ⟨g, i, j, rfl, _⟩ := h
    rfl
  obtain ⟨g, i, j, rfl, hi, hj, q⟩ := h
  refine ⟨_, (pss_cons (ps_if (pt_cmpR op_eq (pv 0) pe_str (nomark _))
      (pss_one (ps_ret (pe_ifExp (pt_cmpR op_lt (pv 1) (pv 2) (nomark _)) pe_int pe_int)))
      pss_nil)
    (pss_cons (ps_if (pt_cmpR op_eq (pv 0) pe_str (nomark _))
      (pss_one (ps_ret (pe_ifExp (pt_cmpR op_eq (pv 1) (pv 2) (nomark _)) pe_int pe_int)))
      pss_nil)
    (pss_cons (ps_set (i := 3) scOperate.nd rfl (Or.inl rfl) (pe_call CO.G (hr.mono (by omega)) (by rfl) CO.m CO.k CO.b .nil pass0 (pa_cons (pv 0) (pa_cons (pv 1) (pa_cons (pv 2) pa_nil)))))
    (pss_cons (ps_if (pt_cmpR op_gt (pe_callB call_abs (by rfl) T.abs (by decide +kernel) (pa_cons (pv 3) pa_nil)) (pe_gi RK.most) (nomark _))
      (pss_one (ps_raiseS rfl TB hr (takes_of rfl rfl rfl rfl) (pa_cons (pe_gi RK.great) pa_nil) rfl))
      pss_nil)
    (pss_one (ps_ret (pv 3))))))), ?_⟩
  refine ⟨_, rfl, rfl, _, rfl, ?_⟩
  refine ite2 (fun c => ?_) (fun c => ?_)
  · cases g with
    | lt =>
      refine ⟨_, rfl, _, rfl, _, _, rfl, rfl, _, rfl, ?_⟩
      have q' : Q (.int (if decide (i < j) = true then 1 else 0)) H := q
      refine ite2 (fun c => ?_) (fun c => ?_)
      · rw [if_pos c] at q'; exact q'
      · rw [if_neg c] at q'; exact q'
    | _ => exact absurd (V.str.inj (of_decide_eq_true c)) (by decide +kernel)
  refine ⟨_, rfl, rfl, _, rfl, ?_⟩
  refine ite2 (fun c2 => ?_) (fun c2 => ?_)
  · cases g with
    | eq =>
      refine ⟨_, rfl, _, rfl, rfl, _, rfl, ?_⟩
      have q' : Q (.int (if decide (i = j) = true then 1 else 0)) H := q
      refine ite2 (fun c => ?_) (fun c => ?_)
      · rw [if_pos (decide_eq_true (V.int.inj (of_decide_eq_true c)))] at q'; exact q'
      · rw [if_neg (fun z => c (decide_eq_true (congrArg V.int (of_decide_eq_true z))))] at q'; exact q'
    | _ => exact absurd (V.str.inj (of_decide_eq_true c2)) (by decide +kernel)
  have n1 : g ≠ .lt := fun z => c (by rw [z]; exact decide_eq_true rfl)
  have n2 : g ≠ .eq := fun z => c2 (by rw [z]; exact decide_eq_true rfl)
  have q' : OutI CB H Q E (if (g.calc i j).natAbs ≤ mostN then .ok (g.calc i j) else .error (-4)) := by
    cases g with
    | lt => exact absurd rfl n1
    | eq => exact absurd rfl n2
    | _ => exact q
  refine ⟨_, rfl, _, rfl, _, rfl, g, i, j, rfl, n1, n2, hi, hj, ?_⟩
  have hM : mostN = 999999999999999999999999999999 := rfl
  refine ⟨_, rfl, _, rfl, _, _, rfl, rfl, _, rfl, ?_⟩
  refine ite2 (fun c3 => ?_) (fun c3 => ?_)
  · have c4 := of_decide_eq_true c3
    rw [if_neg (by show ¬ (g.calc i j).natAbs ≤ mostN; revert c4; show (1000000 ^ 5 - 1 : Int) < (if g.calc i j < 0 then - g.calc i j else g.calc i j) → _; split <;> omega)] at q'
    exact ⟨_, rfl, .inr ⟨_, rfl, by decide +kernel⟩, q'⟩
  · have c4 : ¬ _ := fun z => c3 (decide_eq_true z)
    rw [if_pos (by show (g.calc i j).natAbs ≤ mostN; revert c4; show ¬ ((1000000 ^ 5 - 1 : Int) < (if g.calc i j < 0 then - g.calc i j else g.calc i j)) → _; split <;> omega)] at q'
    exact ⟨_, rfl, q'⟩
theorem ok_reckon {n : Nat} {f a o wo : Addr} {fd ad od wd : FuncData} (F : Fun K "reckon" "reckon" sReckon f fd) (RE : FkX P w K mg base (n + 2) "reckon" f fd ["tree", "worths"] (spReckon CB n)) (WO : FkX P w K mg base 2 "worth_of" wo wd ["name", "worths"] (spWorthOf CB)) (AN : FkX P w K mg base 2 "as_number" a ad ["worth"] (spAsNum CB)) (OP : FkX P w K mg base 2 "operate" o od ["sign", "left", "right"] (spOperate CB)) :
    FnOk P w K mg base (L2.CX P w) (n + 3) f fd ["tree", "worths"] (spReckon CB (n + 1)) := by
  refine F.okX scReckon (fun vs H Q E h => ?_) (fun cdv A outer s H vs Q E hr h => ?_)
  · obtain ⟨v, d, e, env, rfl, _⟩ := h
    rfl
  obtain ⟨v, d, e, env, rfl, hT, ho, hE, q⟩ := h
  refine ⟨_, (pss_cons (ps_if (pt_cmpR op_eq (pe_ix ix_tup (pv 0) pe_int (fun _ _ => rfl)) pe_str (nomark _))
      (pss_one (ps_ret (pe_ix ix_tup (pv 0) pe_int (fun _ _ => rfl))))
      pss_nil)
    (pss_cons (ps_if (pt_cmpR op_eq (pe_ix ix_tup (pv 0) pe_int (fun _ _ => rfl)) pe_str (nomark _))
      (pss_one (ps_ret (pe_call WO.G (hr.mono (by omega)) (by rfl) WO.m WO.k WO.b .nil (passX (takes_of rfl rfl rfl rfl)) (pa_cons (pe_ix ix_tup (pv 0) pe_int (fun _ _ => rfl)) (pa_cons (pv 1) pa_nil)))))
      pss_nil)
    (pss_cons (ps_asg (pv 0) (pg_tup rfl (pgs_cons (pg_name (i := 2) scReckon.nd rfl (.inl rfl)) (pgs_cons (pg_name (i := 3) scReckon.nd rfl (.inl rfl)) (pgs_cons (pg_name (i := 4) scReckon.nd rfl (.inl rfl)) pgs_nil)))))
    (pss_cons (ps_set (i := 5) scReckon.nd rfl (Or.inl rfl) (pe_call RE.G (hr.mono (by omega)) (by rfl) RE.m RE.k RE.b .nil (passX (takes_of rfl rfl rfl rfl)) (pa_cons (pv 3) (pa_cons (pv 1) pa_nil))))
    (pss_cons (ps_set (i := 6) scReckon.nd rfl (Or.inl rfl) (pe_call RE.G (hr.mono (by omega)) (by rfl) RE.m RE.k RE.b .nil (passX (takes_of rfl rfl rfl rfl)) (pa_cons (pv 4) (pa_cons (pv 1) pa_nil))))
    (pss_one (ps_ret (pe_call OP.G (hr.mono (by omega)) (by rfl) OP.m OP.k OP.b .nil (passX (takes_of rfl rfl rfl rfl)) (pa_cons (pv 2) (pa_cons (pe_call AN.G (hr.mono (by omega)) (by rfl) AN.m AN.k AN.b .nil (passX (takes_of rfl rfl rfl rfl)) (pa_cons (pv 5) pa_nil)) (pa_cons (pe_call AN.G (hr.mono (by omega)) (by rfl) AN.m AN.k AN.b .nil (passX (takes_of rfl rfl rfl rfl)) (pa_cons (pv 6) pa_nil)) pa_nil))))))))))), ?_⟩
  cases e with
  | num i =>
    obtain ⟨a, rfl, ha⟩ := hT
    refine ⟨_, rfl, a, _, 0, _, rfl, rfl, SqT.of ha, atI_nat rfl, rfl, _, rfl, ?_⟩
    rw [decide_eq_true rfl]
    refine iteT ⟨_, rfl, a, _, 1, _, rfl, rfl, SqT.of ha, atI_nat (j := 1) rfl, ?_⟩
    exact q _ rfl
  | nam z =>
    obtain ⟨a, rfl, ha⟩ := hT
    refine ⟨_, rfl, a, _, 0, _, rfl, rfl, SqT.of ha, atI_nat rfl, rfl, _, rfl, ?_⟩
    rw [decide_eq_false (by intro z; have := V.str.inj z; revert this; decide +kernel)]
    refine iteF ?_
    refine ⟨_, rfl, a, _, 0, _, rfl, rfl, SqT.of ha, atI_nat rfl, rfl, _, rfl, ?_⟩
    rw [decide_eq_true rfl]
    refine iteT ⟨_, rfl, a, _, 1, _, rfl, rfl, SqT.of ha, atI_nat (j := 1) rfl, ?_⟩
    exact ⟨_, rfl, z, d, env, rfl, hE, q⟩
  | op g l r =>
    obtain ⟨a, x, y, rfl, ha, hl, hr'⟩ := hT
    obtain ⟨o1, o2⟩ := ho
    have he : ∀ nm x, env nm = some x → x.ok := fun nm x e => by
      obtain ⟨kvs, _, h⟩ := hE.at_
      exact ((h nm).1 x e).1
    refine ⟨_, rfl, a, _, 0, _, rfl, rfl, SqT.of ha, atI_nat rfl, rfl, _, rfl, ?_⟩
    rw [decide_eq_false (by intro z; exact g.ne_number (V.str.inj z))]
    refine iteF ?_
    refine ⟨_, rfl, a, _, 0, _, rfl, rfl, SqT.of ha, atI_nat rfl, rfl, _, rfl, ?_⟩
    rw [decide_eq_false (by intro z; exact g.ne_name (V.str.inj z))]
    refine iteF ?_
    refine ⟨_, rfl, a, _, rfl, SqT.of ha, rfl, _, _, rfl, _, _, rfl, _, _, rfl, rfl, ?_⟩
    have q0 : OutW CB H Q E ((l.ev env).bind fun a => (r.ev env).bind fun b => (asNum a).bind fun i => (asNum b).bind fun j => (g.run i j).bind fun n => .ok (.num n)) := q
    refine ⟨_, rfl, _, rfl, x, d, l, env, rfl, hl, o1, hE, ?_⟩
    cases h1 : l.ev env with
    | error m => rw [h1] at q0; exact q0
    | ok a1 =>
    rw [h1] at q0
    intro v1 hv1
    refine ⟨_, rfl, _, rfl, y, d, r, env, rfl, hr', o2, hE, ?_⟩
    change OutW CB H Q E ((r.ev env).bind fun b => (asNum a1).bind fun i => (asNum b).bind fun j => (g.run i j).bind fun n => .ok (.num n)) at q0
    cases h2 : r.ev env with
    | error m => rw [h2] at q0; exact q0
    | ok b1 =>
    rw [h2] at q0
    intro v2 hv2
    have k1 := Ex.ev_ok he n l a1 o1 h1
    have k2 := Ex.ev_ok he n r b1 o2 h2
    change OutW CB H Q E ((asNum a1).bind fun i => (asNum b1).bind fun j => (g.run i j).bind fun n => .ok (.num n)) at q0
    refine ⟨_, rfl, _, rfl, v1, a1, rfl, hv1, ?_⟩
    cases a1 with
    | fut p => exact q0
    | num i =>
    refine ⟨_, rfl, v2, b1, rfl, hv2, ?_⟩
    cases b1 with
    | fut p => exact q0
    | num j =>
    refine ⟨g, i, j, rfl, k1, k2, ?_⟩
    change OutW CB H Q E ((g.run i j).bind fun n => .ok (.num n)) at q0
    cases h5 : g.run i j with
    | error m => rw [h5] at q0; exact q0
    | ok k => rw [h5] at q0; exact q0 _ rfl
theorem reckon_none {f : Addr} {fd : FuncData} {k : Nat} : FnOk P w K mg base (L2.CX P w) k f fd ["tree", "worths"] (spReckon CB 0) := by
  have no : ∀ vs H Q E, ¬ spReckon CB 0 vs H Q E := fun vs H Q E h => by
    obtain ⟨v, d, e, env, _, _, h1, _⟩ := h
    exact h1
  exact ⟨fun vs H Q E h => absurd h (no vs H Q E), fun A outer s H args us vs Q E _ _ _ _ h => absurd h (no vs H Q E)⟩
theorem reckons {f a o wo : Addr} {fd ad od wd : FuncData} (F : Fun K "reckon" "reckon" sReckon f fd) (m : mg "reckon" = some (.ref f)) (k : PySem.W.keepIn K (.ref f) = true) (b : Binds K fd ["tree", "worths"] []) (WO : FkX P w K mg base 2 "worth_of" wo wd ["name", "worths"] (spWorthOf CB)) (AN : FkX P w K mg base 2 "as_number" a ad ["worth"] (spAsNum CB)) (OP : FkX P w K mg base 2 "operate" o od ["sign", "left", "right"] (spOperate CB)) :
    ∀ n, FnOk P w K mg base (L2.CX P w) (n + 2) f fd ["tree", "worths"] (spReckon CB n)
  | 0 => reckon_none
  | n + 1 => ok_reckon F ⟨reckons F m k b WO AN OP n, m, k, b⟩ WO AN OP
theorem ok_reckonN {n : Nat} {f r a : Addr} {fd rd ad : FuncData} (F : Fun K "reckon_number" "reckon_number" sReckonN f fd) (RE : FkX P w K mg base (n + 2) "reckon" r rd ["tree", "worths"] (spReckon CB n)) (AN : FkX P w K mg base 2 "as_number" a ad ["worth"] (spAsNum CB)) :
    FnOk P w K mg base (L2.CX P w) (n + 3) f fd ["tree", "worths"] (spReckonN CB n) := by
  refine F.okX scReckonN (fun vs H Q E h => ?_) (fun cdv A outer s H vs Q E hr h => ?_)
  · obtain ⟨v, d, e, env, rfl, _⟩ := h
    rfl
  obtain ⟨v, d, e, env, rfl, hT, ho, hE, q⟩ := h
  refine ⟨_, (pss_one (ps_ret (pe_call AN.G (hr.mono (by omega)) (by rfl) AN.m AN.k AN.b .nil (passX (takes_of rfl rfl rfl rfl)) (pa_cons (pe_call RE.G (hr.mono (by omega)) (by rfl) RE.m RE.k RE.b .nil (passX (takes_of rfl rfl rfl rfl)) (pa_cons (pv 0) (pa_cons (pv 1) pa_nil))) pa_nil)))), ?_⟩
  have q0 : OutI CB H Q E ((e.ev env).bind asNum) := q
  refine ⟨_, rfl, _, rfl, v, d, e, env, rfl, hT, ho, hE, ?_⟩
  cases h1 : e.ev env with
  | error m => rw [h1] at q0; exact q0
  | ok a1 =>
    rw [h1] at q0
    intro v1 hv1
    exact ⟨v1, a1, rfl, hv1, q0⟩
end
end SH

set_option Elab.async false
set_option linter.all false
set_option maxRecDepth 100000
namespace SH
open PySem L2
abbrev sAreNames : Stmt := topS 44
abbrev sAreEx : Stmt := topS 47
abbrev sIfHead : Stmt := topS 51
abbrev sPlain : Stmt := topS 52
abbrev sRowL : Stmt := topS 49
abbrev sBranL : Stmt := topS 50
abbrev sRowsL : Stmt := topS 48
abbrev sIsWork : Stmt := topS 39
abbrev sChkWork : Stmt := topS 38
theorem scAreNames : FnScope ["thing", "part"] ["thing"] (defScope sAreNames) := ⟨rfl, rfl, rfl, by decide +kernel, rfl, by decide +kernel, by decide +kernel⟩
theorem scAreEx : FnScope ["thing", "part"] ["thing"] (defScope sAreEx) := ⟨rfl, rfl, rfl, by decide +kernel, rfl, by decide +kernel, by decide +kernel⟩
theorem scIfHead : FnScope ["thing"] ["thing"] (defScope sIfHead) := ⟨rfl, rfl, rfl, by decide +kernel, rfl, by decide +kernel, by decide +kernel⟩
theorem scPlain : FnScope ["thing"] ["thing"] (defScope sPlain) := ⟨rfl, rfl, rfl, by decide +kernel, rfl, by decide +kernel, by decide +kernel⟩
theorem scRowL : FnScope ["thing", "ifs", "left"] ["thing", "ifs", "left"] (defScope sRowL) := ⟨rfl, rfl, rfl, by decide +kernel, rfl, by decide +kernel, by decide +kernel⟩
theorem scBranL : FnScope ["row", "ifs", "left"] ["row", "ifs", "left"] (defScope sBranL) := ⟨rfl, rfl, rfl, by decide +kernel, rfl, by decide +kernel, by decide +kernel⟩
theorem scRowsL : FnScope ["thing", "ifs", "left", "row"] ["thing", "ifs", "left"] (defScope sRowsL) := ⟨rfl, rfl, rfl, by decide +kernel, rfl, by decide +kernel, by decide +kernel⟩
theorem scIsWork : FnScope ["thing", "name", "names", "room", "rows"] ["thing"] (defScope sIsWork) := ⟨rfl, rfl, rfl, by decide +kernel, rfl, by decide +kernel, by decide +kernel⟩
theorem scChkWork : FnScope ["thing"] ["thing"] (defScope sChkWork) := ⟨rfl, rfl, rfl, by decide +kernel, rfl, by decide +kernel, by decide +kernel⟩
def spAreNames : Sp := fun vs H Q _ => ∃ (a : Addr) (nm : List Str), vs = [.ref a] ∧ H a = some (.tup (nm.map V.str)) ∧ nm.length ≤ 4 ∧ (∀ s ∈ nm, NmOk s) ∧ nm.Nodup ∧ ∀ H', Same H H' → Q (.bl true) H'
def spAreEx : Sp := fun vs H Q _ => ∃ (a : Addr) (es : List Ex) (ws : List V), vs = [.ref a] ∧ H a = some (.tup ws) ∧ TrsIn H es ws ∧ es.length ≤ 4 ∧ (∀ e ∈ es, Ex.fine 6 e) ∧ ∀ H', Same H H' → Q (.bl true) H'
def Rs.isIf : Rs → Bool
  | .iff _ _ _ _ => true
  | _ => false
def spIfHead (n : Nat) : Sp := fun vs H Q _ => ∃ (v : V) (rs : Rs) (r : List V), vs = [v] ∧ RsIn H rs (v :: r) ∧ Rs.ok n rs ∧ ∀ H', Same H H' → Q (.bl rs.isIf) H'
def spPlain (n : Nat) : Sp := fun vs H Q _ => ∃ (v : V) (rs : Rs) (r : List V), vs = [v] ∧ RsIn H rs (v :: r) ∧ Rs.ok n rs ∧ rs.isIf = false ∧ ∀ H', Same H H' → Q (.bl true) H'
def spRowL (n : Nat) : Sp := fun vs H Q _ => ∃ (v : V) (rs : Rs) (r : List V) (l : Nat), vs = [v, .int n, .int l] ∧ RsIn H rs (v :: r) ∧ Rs.ok n rs ∧ rs.rc ≤ l ∧ ∀ H', Same H H' → Q (.int ((l - rs.rc : Nat) : Int)) H'
def spRowsL (n : Nat) : Sp := fun vs H Q _ => ∃ (p : Addr) (rs : Rs) (xs : List V) (l : Nat), vs = [.ref p, .int n, .int l] ∧ H p = some (.tup xs) ∧ RsIn H rs xs ∧ Rs.ok n rs ∧ rs.count ≤ l ∧ ∀ H', Same H H' → Q (.int ((l - rs.count : Nat) : Int)) H'
def spBranL (n : Nat) : Sp := fun vs H Q _ => ∃ (a p p' : Addr) (v : V) (A B : Rs) (xs ys : List V) (l : Nat), vs = [.ref a, .int n, .int l] ∧ H a = some (.tup [.str "if", v, .ref p, .ref p']) ∧ H p = some (.tup xs) ∧ RsIn H A xs ∧ H p' = some (.tup ys) ∧ RsIn H B ys ∧ Rs.ok n A ∧ Rs.ok n B ∧ A.count + B.count ≤ l ∧
  ∀ H', Same H H' → Q (.int ((l - (A.count + B.count) : Nat) : Int)) H'
theorem TrsIn.same {H H' : Hp} (h : Same H H') : ∀ {es : List Ex} {vs : List V}, TrsIn H es vs → TrsIn H' es vs
  | [], _, q => q
  | _ :: _, _, ⟨v, r, e, t, q⟩ => ⟨v, r, e, t.same h, TrsIn.same h q⟩
theorem OptIn.same {H H' : Hp} (h : Same H H') : ∀ {e : Option Ex} {v : V}, OptIn H e v → OptIn H' e v
  | none, _, q => q
  | some _, _, q => TrIn.same h q
theorem RsIn.same {H H' : Hp} (h : Same H H') : ∀ {r : Rs} {vs : List V}, RsIn H r vs → RsIn H' r vs
  | .nil, _, q => q
  | .put _ _ _, _, ⟨a, v, r, e, k, t, q⟩ => ⟨a, v, r, e, h _ _ k, t.same h, RsIn.same h q⟩
  | .go _ _ _ _ _, _, ⟨a, p, ws, r, e, k, k2, t, q⟩ => ⟨a, p, ws, r, e, h _ _ k, h _ _ k2, t.same h, RsIn.same h q⟩
  | .wait _ _ _ _, _, ⟨a, v, r, e, k, t, q⟩ => ⟨a, v, r, e, h _ _ k, t.same h, RsIn.same h q⟩
  | .iff _ _ _ _, _, ⟨a, v, p, xs, p', ys, r, e, k, t, k1, q1, k2, q2, q⟩ => ⟨a, v, p, xs, p', ys, r, e, h _ _ k, t.same h, h _ _ k1, RsIn.same h q1, h _ _ k2, RsIn.same h q2, RsIn.same h q⟩
  | .give _ _ _, _, ⟨a, v, r, e, k, t, q⟩ => ⟨a, v, r, e, h _ _ k, t.same h, RsIn.same h q⟩
theorem TrIn.updl {H : Hp} {b : Addr} {ys zs : List V} (hb : H b = some (.lst ys)) {e : Ex} {v : V} (h : TrIn H e v) : TrIn (upd H b (.lst zs)) e v :=
  h.but hb fun a o na q => by rw [upd_ne na]; exact q
theorem TrsIn.updl {H : Hp} {b : Addr} {ys zs : List V} (hb : H b = some (.lst ys)) : ∀ {es : List Ex} {vs : List V}, TrsIn H es vs → TrsIn (upd H b (.lst zs)) es vs
  | [], _, q => q
  | _ :: _, _, ⟨v, r, e, t, q⟩ => ⟨v, r, e, t.updl hb, TrsIn.updl hb q⟩
theorem OptIn.updl {H : Hp} {b : Addr} {ys zs : List V} (hb : H b = some (.lst ys)) : ∀ {e : Option Ex} {v : V}, OptIn H e v → OptIn (upd H b (.lst zs)) e v
  | none, _, q => q
  | some _, _, q => TrIn.updl hb q
theorem tup_updl {H : Hp} {a b : Addr} {xs ys zs : List V} (hb : H b = some (.lst ys)) (h : H a = some (.tup xs)) : (upd H b (.lst zs)) a = some (.tup xs) := by
  rw [upd_ne (lst_ne h hb)]
  exact h
theorem RsIn.upd_lst {H : Hp} {b : Addr} {ys zs : List V} (hb : H b = some (.lst ys)) : ∀ {r : Rs} {vs : List V}, RsIn H r vs → RsIn (upd H b (.lst zs)) r vs
  | .nil, _, q => q
  | .put _ _ _, _, ⟨a, v, r, e, k, t, q⟩ => ⟨a, v, r, e, tup_updl hb k, t.updl hb, RsIn.upd_lst hb q⟩
  | .go _ _ _ _ _, _, ⟨a, p, ws, r, e, k, k2, t, q⟩ => ⟨a, p, ws, r, e, tup_updl hb k, tup_updl hb k2, t.updl hb, RsIn.upd_lst hb q⟩
  | .wait _ _ _ _, _, ⟨a, v, r, e, k, t, q⟩ => ⟨a, v, r, e, tup_updl hb k, t.updl hb, RsIn.upd_lst hb q⟩
  | .iff _ _ _ _, _, ⟨a, v, p, xs, p', ys', r, e, k, t, k1, q1, k2, q2, q⟩ => ⟨a, v, p, xs, p', ys', r, e, tup_updl hb k, t.updl hb, tup_updl hb k1, RsIn.upd_lst hb q1, tup_updl hb k2, RsIn.upd_lst hb q2, RsIn.upd_lst hb q⟩
  | .give _ _ _, _, ⟨a, v, r, e, k, t, q⟩ => ⟨a, v, r, e, tup_updl hb k, t.updl hb, RsIn.upd_lst hb q⟩
theorem TrsIn.snoc {H : Hp} {e : Ex} {v : V} (h : TrIn H e v) : ∀ {es : List Ex} {vs : List V}, TrsIn H es vs → TrsIn H (es ++ [e]) (vs ++ [v])
  | [], _, q => by cases q; exact ⟨v, [], rfl, h, rfl⟩
  | _ :: _, _, ⟨v', r, e', t, q⟩ => by cases e'; exact ⟨v', _, rfl, t, TrsIn.snoc h q⟩
theorem TrsIn.len {H : Hp} : ∀ {es : List Ex} {vs : List V}, TrsIn H es vs → vs.length = es.length
  | [], _, q => by cases q; rfl
  | _ :: _, _, ⟨v, r, e, t, q⟩ => by cases e; exact congrArg Nat.succ (TrsIn.len q)
theorem TrsIn.get_ {H : Hp} : ∀ {es : List Ex} {vs : List V} {i : Nat} {v : V}, TrsIn H es vs → vs[i]? = some v → ∃ e, es[i]? = some e ∧ TrIn H e v
  | [], _, i, v, q, h => by cases q; simp at h
  | _ :: _, _, 0, v, ⟨v', r, e, t, q⟩, h => by cases e; cases h; exact ⟨_, rfl, t⟩
  | _ :: _, _, i + 1, v, ⟨v', r, e, t, q⟩, h => by cases e; have z := TrsIn.get_ (i := i) q h; exact z
structure Wk where
  name : Str
  names : List Str
  room : Int
  rows : Rs
def WkIn (H : Hp) (W : Wk) (v : V) : Prop := ∃ (a pn pr : Addr) (xs : List V), v = .ref a ∧ H a = some (.tup [.str "work", .str W.name, .ref pn, .int W.room, .ref pr]) ∧ H pn = some (.tup (W.names.map V.str)) ∧ H pr = some (.tup xs) ∧ RsIn H W.rows xs
structure Wk.ok (W : Wk) : Prop where
  name : NmOk W.name
  few : W.names.length ≤ 4
  names : ∀ s ∈ W.names, NmOk s
  nd : W.names.Nodup
  room0 : 0 ≤ W.room
  room1 : W.room ≤ 1000
  rows : Rs.ok 3 W.rows
  count : W.rows.count ≤ 40
theorem WkIn.same {H H' : Hp} {W : Wk} {v : V} (h : Same H H') : WkIn H W v → WkIn H' W v
  | ⟨a, pn, pr, xs, e, k1, k2, k3, q⟩ => ⟨a, pn, pr, xs, e, h _ _ k1, h _ _ k2, h _ _ k3, q.same h⟩
def spIsWork : Sp := fun vs H Q _ => ∃ (v : V) (W : Wk), vs = [v] ∧ WkIn H W v ∧ W.ok ∧ ∀ H', Same H H' → Q (.bl true) H'
def spChkWork : Sp := fun vs H Q _ => ∃ (v : V) (W : Wk), vs = [v] ∧ WkIn H W v ∧ W.ok ∧ ∀ H', Same H H' → Q .non H'
theorem all_true (n : Nat) : (List.replicate n true).all id = true := by
  rw [List.all_eq_true]
  intro x hx
  exact (List.mem_replicate.mp hx).2
section
variable {P : Program} {w : World} {K : PySem.W.Frag} {mg : Str → Option Value} {base : Heap}
theorem ok_areNames {f i : Addr} {fd idd : FuncData} (F : Fun K "are_names" "are_names" sAreNames f fd) (IN : Fk P w K mg base 1 "is_name" i idd ["thing"] spIsName) (T : Bi mg) (G : Gf K mg) (mt : mg "tuple" = none) (msx : mg "set" = none) : FnOk P w K mg base CX0 2 f fd ["thing"] spAreNames := by
  refine F.ok scAreNames (fun vs H Q E h => ?_) (fun cdv A outer s H vs Q E hr h => ?_)
  · obtain ⟨a, nm, rfl, _⟩ := h
    rfl
  obtain ⟨a, nm, rfl, ha, h4, hok, hnd, q⟩ := h
  refine ⟨_, (pss_cons (ps_if (PW.pt (pw_or (pt_not (pt_val (pe_callB call_isi (by rfl) T.isinstance (by decide +kernel) (pa_cons (pv 0) (pa_cons (pe_bltn (v := .ty "tuple") (by rfl) mt (by decide +kernel) rfl) pa_nil))))) (pw_or1 (pt_cmpR op_gt (pe_callB call_len_seq (by rfl) T.len (by decide +kernel) (pa_cons (pv 0) pa_nil)) (pe_gi G.names) (nomark _)))))
      (pss_one (ps_ret pe_bl))
      pss_nil)
    (pss_one (ps_ret (pe_and (pe_callB (cr_all rfl) (by rfl) T.all (by decide +kernel) (pa_cons (pe_lc (own := [("part", 1)]) (g := gName 1) (tt := tYes) (by rfl) scAreNames.nd (pi_tup (pv 0)) (blkOk_by (own := [("part", 1)]) (N := ["thing", "part"]) (sc := defScope sAreNames) (by decide +kernel)) (fun _ _ _ _ _ => pg_name (i := 1) scAreNames.nd rfl (Or.inl rfl)) (fun _ _ _ _ _ => pts_nil) (fun _ _ _ _ _ => (pe_call IN.G (hr.mono (by omega)) (by rfl) IN.m IN.k IN.b .nil pass0 (pa_cons (pv 1) pa_nil)))) pa_nil)) (pe_one (pe_cmpR op_eq (pe_lenTxt (by rfl) T.len (by rfl) msx (pv 0)) (pe_callB call_len_seq (by rfl) T.len (by decide +kernel) (pa_cons (pv 0) pa_nil)) (nomark _))))))), ?_⟩
  have hs : sizeLine = 16777216 := by decide
  have hl : (nm.map V.str).length = nm.length := List.length_map _
  refine ⟨_, rfl, _, _, _, _, true, rfl, .ty "tuple", .base (.tup ha), kit_ty (by decide +kernel), _, rfl, ?_⟩
  refine ⟨_, rfl, a, _, rfl, .inr (SqT.of ha), _, _, rfl, rfl, _, rfl, ?_⟩
  rw [hl, decide_eq_false (by omega : ¬ (4 : Int) < (nm.length : Nat))]
  refine ⟨_, rfl, a, rfl, ⟨_, SqT.of ha⟩, ?_⟩
  intro D hD
  refine lc_tup (K := K) (a := a) (xs := nm.map V.str) (fun j H' => H' D = some (.lst ((List.replicate j true).map V.bl)) ∧ Same H H') ⟨upd_same, same_new hD _⟩ (fun j H' _ h => SqT.of (h.2 _ _ ha)) ?_ ?_
  · rintro j x H2 hx ⟨hD2, s2⟩
    obtain ⟨z, hz, rfl⟩ : ∃ z, nm[j]? = some z ∧ V.str z = x := by
      rw [List.getElem?_map] at hx
      obtain ⟨x', h1, h2⟩ := Option.map_eq_some_iff.mp hx
      exact ⟨x', h1, h2⟩
    have hj : j < nm.length := by
      obtain ⟨h1, _⟩ := List.getElem?_eq_some_iff.mp hz
      exact h1
    refine ⟨rfl, ?_⟩
    refine ⟨_, rfl, z, rfl, hok z (List.mem_of_getElem? hz), fun H3 s3 => ?_⟩
    refine ⟨_, s3 _ _ hD2, by rw [List.length_map, List.length_replicate]; omega, ?_, ?_⟩
    · rw [upd_same, List.replicate_succ', List.map_append]
      rfl
    · intro x o zz
      rw [upd_ne (ne_of_none zz hD)]
      exact s3 _ _ (s2 _ _ zz)
  · rintro H2 ⟨hD2, s2⟩
    refine ⟨D, _, rfl, SqL.of hD2, ?_⟩
    rw [all_true]
    refine ⟨_, rfl, ?_⟩
    refine ⟨_, rfl, a, nm, rfl, SqT.of (s2 _ _ ha), by omega, ?_⟩
    refine ⟨_, rfl, a, _, rfl, .inr (SqT.of (s2 _ _ ha)), rfl, ?_⟩
    rw [SHSet.dd_nd hnd, hl, decide_eq_true rfl]
    exact q H2 s2
theorem ok_areEx {f i : Addr} {fd idd : FuncData} {ds : List Value} (F : Fun K "are_expressions" "are_expressions" sAreEx f fd) (IE : Fk P w K mg base 9 "is_expression" i idd ["thing", "deepest"] (spIsEx 6)) (vE : Vals [V.int 6] ds) (bE : Binds K idd ["thing", "deepest"] ds) (T : Bi mg) (G : Gf K mg) (mt : mg "tuple" = none) :
    FnOk P w K mg base CX0 10 f fd ["thing"] spAreEx := by
  refine F.ok scAreEx (fun vs H Q E h => ?_) (fun cdv A outer s H vs Q E hr h => ?_)
  · obtain ⟨a, es, ws, rfl, _⟩ := h
    rfl
  obtain ⟨a, es, ws, rfl, ha, hT, h4, hok, q⟩ := h
  refine ⟨_, (pss_cons (ps_if (PW.pt (pw_or (pt_not (pt_val (pe_callB call_isi (by rfl) T.isinstance (by decide +kernel) (pa_cons (pv 0) (pa_cons (pe_bltn (v := .ty "tuple") (by rfl) mt (by decide +kernel) rfl) pa_nil))))) (pw_or1 (pt_cmpR op_gt (pe_callB call_len_seq (by rfl) T.len (by decide +kernel) (pa_cons (pv 0) pa_nil)) (pe_gi G.exprs) (nomark _)))))
      (pss_one (ps_ret pe_bl))
      pss_nil)
    (pss_one (ps_ret (pe_callB (cr_all rfl) (by rfl) T.all (by decide +kernel) (pa_cons (pe_lc (own := [("part", 1)]) (g := gName 1) (tt := tYes) (by rfl) scAreEx.nd (pi_tup (pv 0)) (blkOk_by (own := [("part", 1)]) (N := ["thing", "part"]) (sc := defScope sAreEx) (by decide +kernel)) (fun _ _ _ _ _ => pg_name (i := 1) scAreEx.nd rfl (Or.inl rfl)) (fun _ _ _ _ _ => pts_nil) (fun _ _ _ _ _ => (pe_call IE.G (hr.mono (by omega)) (by rfl) IE.m IE.k bE vE pass0 (pa_cons (pv 1) pa_nil)))) pa_nil))))), ?_⟩
  have hs : sizeLine = 16777216 := by decide
  have hl := hT.len
  refine ⟨_, rfl, _, _, _, _, true, rfl, .ty "tuple", .base (.tup ha), kit_ty (by decide +kernel), _, rfl, ?_⟩
  refine ⟨_, rfl, a, _, rfl, .inr (SqT.of ha), _, _, rfl, rfl, _, rfl, ?_⟩
  rw [hl, decide_eq_false (by omega : ¬ (4 : Int) < (es.length : Nat))]
  refine ⟨_, rfl, a, rfl, ⟨_, SqT.of ha⟩, ?_⟩
  intro D hD
  refine lc_tup (K := K) (a := a) (xs := ws) (fun j H' => H' D = some (.lst ((List.replicate j true).map V.bl)) ∧ Same H H') ⟨upd_same, same_new hD _⟩ (fun j H' _ h => SqT.of (h.2 _ _ ha)) ?_ ?_
  · rintro j x H2 hx ⟨hD2, s2⟩
    obtain ⟨e, he, te⟩ := hT.get_ hx
    have hj : j < es.length := by
      obtain ⟨h1, _⟩ := List.getElem?_eq_some_iff.mp he
      exact h1
    refine ⟨rfl, ?_⟩
    refine ⟨_, rfl, x, e, rfl, te.same s2, hok e (List.mem_of_getElem? he), fun H3 s3 => ?_⟩
    refine ⟨_, s3 _ _ hD2, by rw [List.length_map, List.length_replicate]; omega, ?_, ?_⟩
    · rw [upd_same, List.replicate_succ', List.map_append]
      rfl
    · intro x o zz
      rw [upd_ne (ne_of_none zz hD)]
      exact s3 _ _ (s2 _ _ zz)
  · rintro H2 ⟨hD2, s2⟩
    refine ⟨D, _, rfl, SqL.of hD2, ?_⟩
    rw [all_true]
    exact q H2 s2
theorem ok_ifHead {n : Nat} {f i t : Addr} {fd idd td : FuncData} {ds : List Value} (F : Fun K "is_if_head" "is_if_head" sIfHead f fd) (TO : Fk P w K mg base 1 "is_tuple_of" t td ["thing", "many"] spTupOf) (IE : Fk P w K mg base 9 "is_expression" i idd ["thing", "deepest"] (spIsEx 6)) (vE : Vals [V.int 6] ds) (bE : Binds K idd ["thing", "deepest"] ds) :
    FnOk P w K mg base CX0 10 f fd ["thing"] (spIfHead n) := by
  refine F.ok scIfHead (fun vs H Q E h => ?_) (fun cdv A outer s H vs Q E hr h => ?_)
  · obtain ⟨v, rs, r, rfl, _⟩ := h
    rfl
  obtain ⟨v, rs, r, rfl, hR, hok, q⟩ := h
  refine ⟨_, (pss_one (ps_ret (pe_and (pe_call TO.G (hr.mono (by omega)) (by rfl) TO.m TO.k TO.b .nil pass0 (pa_cons (pv 0) (pa_cons pe_int pa_nil))) (pe_and (pe_cmpR op_eq (pe_ix ix_tup (pv 0) pe_int (fun _ _ => rfl)) pe_str (nomark _)) (pe_one (pe_call IE.G (hr.mono (by omega)) (by rfl) IE.m IE.k bE vE pass0 (pa_cons (pe_ix ix_tup (pv 0) pe_int (fun _ _ => rfl)) pa_nil))))))), ?_⟩
  have q0 := q H (Same.refl H)
  cases rs with
  | nil => cases hR
  | put x e t =>
    obtain ⟨a, u, r', e1, ha, _⟩ := hR
    cases e1
    exact ⟨_, rfl, a, _, 4, rfl, ha, _, rfl, q0⟩
  | go b x g es t =>
    obtain ⟨a, p, ws, r', e1, ha, _⟩ := hR
    cases e1
    refine ⟨_, rfl, a, _, 4, rfl, ha, _, rfl, ?_⟩
    refine ⟨_, rfl, a, _, 0, _, rfl, rfl, SqT.of ha, atI_nat rfl, rfl, _, rfl, ?_⟩
    rw [decide_eq_false (by intro z; have := V.str.inj z; cases b <;> (revert this; decide +kernel))]
    exact q0
  | wait x y oe t =>
    obtain ⟨a, u, r', e1, ha, _⟩ := hR
    cases e1
    refine ⟨_, rfl, a, _, 4, rfl, ha, _, rfl, ?_⟩
    refine ⟨_, rfl, a, _, 0, _, rfl, rfl, SqT.of ha, atI_nat rfl, rfl, _, rfl, ?_⟩
    rw [decide_eq_false (by intro z; have := V.str.inj z; revert this; decide +kernel)]
    exact q0
  | iff e A B t =>
    obtain ⟨a, u, p, xs, p', ys, r', e1, ha, te, _⟩ := hR
    cases e1
    refine ⟨_, rfl, a, _, 4, rfl, ha, _, rfl, ?_⟩
    refine ⟨_, rfl, a, _, 0, _, rfl, rfl, SqT.of ha, atI_nat rfl, rfl, _, rfl, ?_⟩
    rw [decide_eq_true rfl]
    exact ⟨_, rfl, a, _, 1, _, rfl, rfl, SqT.of ha, atI_nat (j := 1) rfl, u, e, rfl, te, hok.2.1, q⟩
  | give b e t =>
    obtain ⟨a, u, r', e1, ha, _⟩ := hR
    cases e1
    exact ⟨_, rfl, a, _, 4, rfl, ha, _, rfl, q0⟩
theorem ok_plain {n : Nat} {f i t j k : Addr} {fd idd td jd kd : FuncData} {ds : List Value} (F : Fun K "is_plain_row" "is_plain_row" sPlain f fd) (TO : Fk P w K mg base 1 "is_tuple_of" t td ["thing", "many"] spTupOf) (IE : Fk P w K mg base 9 "is_expression" i idd ["thing", "deepest"] (spIsEx 6)) (vE : Vals [V.int 6] ds) (bE : Binds K idd ["thing", "deepest"] ds)
    (IN : Fk P w K mg base 1 "is_name" j jd ["thing"] spIsName) (AE : Fk P w K mg base 10 "are_expressions" k kd ["thing"] spAreEx) : FnOk P w K mg base CX0 11 f fd ["thing"] (spPlain n) := by
  refine F.ok scPlain (fun vs H Q E h => ?_) (fun cdv A outer s H vs Q E hr h => ?_)
  · obtain ⟨v, rs, r, rfl, _⟩ := h
    rfl
  obtain ⟨v, rs, r, rfl, hR, hok, hif, q⟩ := h
  refine ⟨_, (pss_cons (ps_if (pt_val (pe_call TO.G (hr.mono (by omega)) (by rfl) TO.m TO.k TO.b .nil pass0 (pa_cons (pv 0) (pa_cons pe_int pa_nil))))
      (pss_one (ps_ret (pe_and (pe_cmpR op_in_seq (pe_ix ix_tup (pv 0) pe_int (fun _ _ => rfl)) (pe_tup (pa_cons pe_str (pa_cons pe_str pa_nil))) rfl) (pe_one (pe_call IE.G (hr.mono (by omega)) (by rfl) IE.m IE.k bE vE pass0 (pa_cons (pe_ix ix_tup (pv 0) pe_int (fun _ _ => rfl)) pa_nil))))))
      pss_nil)
    (pss_cons (ps_if (pt_val (pe_call TO.G (hr.mono (by omega)) (by rfl) TO.m TO.k TO.b .nil pass0 (pa_cons (pv 0) (pa_cons pe_int pa_nil))))
      (pss_one (ps_ret (pe_and (pe_cmpR op_eq (pe_ix ix_tup (pv 0) pe_int (fun _ _ => rfl)) pe_str (nomark _)) (pe_and (pe_call IN.G (hr.mono (by omega)) (by rfl) IN.m IN.k IN.b .nil pass0 (pa_cons (pe_ix ix_tup (pv 0) pe_int (fun _ _ => rfl)) pa_nil)) (pe_one (pe_call IE.G (hr.mono (by omega)) (by rfl) IE.m IE.k bE vE pass0 (pa_cons (pe_ix ix_tup (pv 0) pe_int (fun _ _ => rfl)) pa_nil)))))))
      pss_nil)
    (pss_cons (ps_if (PW.pt (pw_or (pt_not (pt_val (pe_call TO.G (hr.mono (by omega)) (by rfl) TO.m TO.k TO.b .nil pass0 (pa_cons (pv 0) (pa_cons pe_int pa_nil))))) (pw_or (pt_not (pt_val (pe_call IN.G (hr.mono (by omega)) (by rfl) IN.m IN.k IN.b .nil pass0 (pa_cons (pe_ix ix_tup (pv 0) pe_int (fun _ _ => rfl)) pa_nil)))) (pw_or1 (pt_not (pt_val (pe_call IN.G (hr.mono (by omega)) (by rfl) IN.m IN.k IN.b .nil pass0 (pa_cons (pe_ix ix_tup (pv 0) pe_int (fun _ _ => rfl)) pa_nil))))))))
      (pss_one (ps_ret pe_bl))
      pss_nil)
    (pss_cons (ps_if (pt_cmpR op_eq (pe_ix ix_tup (pv 0) pe_int (fun _ _ => rfl)) pe_str (nomark _))
      (pss_one (ps_ret (pe_or (pe_cmpR op_isN (pe_ix ix_tup (pv 0) pe_int (fun _ _ => rfl)) pe_non (nomark _)) (pe_one (pe_call IE.G (hr.mono (by omega)) (by rfl) IE.m IE.k bE vE pass0 (pa_cons (pe_ix ix_tup (pv 0) pe_int (fun _ _ => rfl)) pa_nil))))))
      pss_nil)
    (pss_one (ps_ret (pe_and (pe_cmpR op_in_seq (pe_ix ix_tup (pv 0) pe_int (fun _ _ => rfl)) (pe_tup (pa_cons pe_str (pa_cons pe_str pa_nil))) rfl) (pe_one (pe_call AE.G (hr.mono (by omega)) (by rfl) AE.m AE.k AE.b .nil pass0 (pa_cons (pe_ix ix_tup (pv 0) pe_int (fun _ _ => rfl)) pa_nil)))))))))), ?_⟩
  cases rs with
  | nil => cases hR
  | put x e t =>
    obtain ⟨a, u, r', e1, ha, te, _⟩ := hR
    cases e1
    refine ⟨_, rfl, a, _, 2, rfl, ha, _, rfl, ?_⟩
    refine ⟨_, rfl, a, _, 3, rfl, ha, _, rfl, ?_⟩
    refine ⟨_, rfl, a, _, 0, _, rfl, rfl, SqT.of ha, atI_nat rfl, rfl, _, rfl, ?_⟩
    rw [decide_eq_true rfl]
    refine ⟨_, rfl, a, _, 1, _, rfl, rfl, SqT.of ha, atI_nat (j := 1) rfl, x, rfl, hok.1, fun H1 s1 => ⟨_, rfl, ?_⟩⟩
    exact ⟨_, rfl, a, _, 2, _, rfl, rfl, SqT.of (s1 _ _ ha), atI_nat (j := 2) rfl, u, e, rfl, te.same s1, hok.2.1, fun H2 s2 => q H2 (s1.trans s2)⟩
  | go b x g es t =>
    obtain ⟨a, p, ws, r', e1, ha, hp, ts, _⟩ := hR
    cases e1
    refine ⟨_, rfl, a, _, 2, rfl, ha, _, rfl, ?_⟩
    refine ⟨_, rfl, a, _, 3, rfl, ha, _, rfl, ?_⟩
    refine ⟨_, rfl, a, _, 4, rfl, ha, _, rfl, ?_⟩
    refine ⟨_, rfl, a, _, 1, _, rfl, rfl, SqT.of ha, atI_nat (j := 1) rfl, x, rfl, hok.1, fun H1 s1 => ⟨_, rfl, ?_⟩⟩
    refine ⟨_, rfl, a, _, 2, _, rfl, rfl, SqT.of (s1 _ _ ha), atI_nat (j := 2) rfl, g, rfl, hok.2.1, fun H2 s2 => ⟨_, rfl, ?_⟩⟩
    have s12 := s1.trans s2
    refine ⟨_, rfl, a, _, 0, _, rfl, rfl, SqT.of (s12 _ _ ha), atI_nat rfl, rfl, _, rfl, ?_⟩
    rw [decide_eq_false (by intro z; have := V.str.inj z; cases b <;> (revert this; decide +kernel))]
    refine iteF ?_
    refine ⟨_, rfl, a, _, 0, _, rfl, rfl, SqT.of (s12 _ _ ha), atI_nat rfl, (by show 2 ≤ sizeLine; decide), fun l hl => ?_⟩
    have s3 := same_new hl (.tup [.str "go", .str "call"])
    have ein : inV (.str (goW b)) [.str "go", .str "call"] = true := by cases b <;> decide +kernel
    refine ⟨l, _, rfl, .inr (SqT.of upd_same), rfl, rfl, _, rfl, ?_⟩
    rw [if_neg Bool.false_ne_true, ein]
    have s13 := s12.trans s3
    exact ⟨_, rfl, a, _, 3, _, rfl, rfl, SqT.of (s13 _ _ ha), atI_nat (j := 3) rfl, p, es, ws, rfl, s13 _ _ hp, ts.same s13, hok.2.2.1, hok.2.2.2.1, fun H4 s4 => q H4 (s13.trans s4)⟩
  | wait x y oe t =>
    obtain ⟨a, u, r', e1, ha, to, _⟩ := hR
    cases e1
    refine ⟨_, rfl, a, _, 2, rfl, ha, _, rfl, ?_⟩
    refine ⟨_, rfl, a, _, 3, rfl, ha, _, rfl, ?_⟩
    refine ⟨_, rfl, a, _, 4, rfl, ha, _, rfl, ?_⟩
    refine ⟨_, rfl, a, _, 1, _, rfl, rfl, SqT.of ha, atI_nat (j := 1) rfl, x, rfl, hok.1, fun H1 s1 => ⟨_, rfl, ?_⟩⟩
    refine ⟨_, rfl, a, _, 2, _, rfl, rfl, SqT.of (s1 _ _ ha), atI_nat (j := 2) rfl, y, rfl, hok.2.1, fun H2 s2 => ⟨_, rfl, ?_⟩⟩
    have s12 := s1.trans s2
    refine ⟨_, rfl, a, _, 0, _, rfl, rfl, SqT.of (s12 _ _ ha), atI_nat rfl, rfl, _, rfl, ?_⟩
    rw [decide_eq_true rfl]
    refine iteT ?_
    refine ⟨_, rfl, a, _, 3, _, rfl, rfl, SqT.of (s12 _ _ ha), atI_nat (j := 3) rfl, rfl, _, rfl, ?_⟩
    cases oe with
    | none =>
      cases to
      rw [decide_eq_true rfl]
      exact q H2 s12
    | some e =>
      have hne : ¬ u = V.non := fun z => by
        obtain ⟨a', xs', e', _⟩ := TrIn.tup to
        rw [z] at e'
        cases e'
      rw [decide_eq_false hne]
      exact ⟨_, rfl, a, _, 3, _, rfl, rfl, SqT.of (s12 _ _ ha), atI_nat (j := 3) rfl, u, e, rfl, TrIn.same s12 to, hok.2.2.1 e rfl, fun H3 s3 => q H3 (s12.trans s3)⟩
  | iff e A B t => cases hif
  | give b e t =>
    obtain ⟨a, u, r', e1, ha, te, _⟩ := hR
    cases e1
    refine ⟨_, rfl, a, _, 2, rfl, ha, _, rfl, ?_⟩
    refine ⟨_, rfl, a, _, 0, _, rfl, rfl, SqT.of ha, atI_nat rfl, (by show 2 ≤ sizeLine; decide), fun l hl => ?_⟩
    have s3 := same_new hl (.tup [.str "give", .str "fail"])
    have ein : inV (.str (giveW b)) [.str "give", .str "fail"] = true := by cases b <;> decide +kernel
    refine ⟨l, _, rfl, .inr (SqT.of upd_same), rfl, rfl, _, rfl, ?_⟩
    rw [if_neg Bool.false_ne_true, ein]
    exact ⟨_, rfl, a, _, 1, _, rfl, rfl, SqT.of (s3 _ _ ha), atI_nat (j := 1) rfl, u, e, rfl, te.same s3, hok.1, fun H4 s4 => q H4 (s3.trans s4)⟩
theorem ok_rowL {n k : Nat} {f i j b : Addr} {fd idd jd bd : FuncData} (hk : 11 ≤ k) (F : Fun K "row_left" "row_left" sRowL f fd) (IH : Fk P w K mg base 10 "is_if_head" i idd ["thing"] (spIfHead n)) (IP : Fk P w K mg base 11 "is_plain_row" j jd ["thing"] (spPlain n))
    (BL : 1 ≤ n → Fk P w K mg base k "branches_left" b bd ["row", "ifs", "left"] (spBranL (n - 1))) (mB : mg "branches_left" = some (.ref b)) (kB : PySem.W.keepIn K (.ref b) = true) (bB : Binds K bd ["row", "ifs", "left"] []) (G : Gf K mg) : FnOk P w K mg base CX0 (k + 1) f fd ["thing", "ifs", "left"] (spRowL n) := by
  refine F.ok scRowL (fun vs H Q E h => ?_) (fun cdv A outer s H vs Q E hr h => ?_)
  · obtain ⟨v, rs, r, l, rfl, _⟩ := h
    rfl
  obtain ⟨v, rs, r, l, rfl, hR, hok, hc, q⟩ := h
  have hpos := Rs.rc_pos hR
  have BG : ∃ sp, FnOk P w K mg base CX0 k b bd ["row", "ifs", "left"] sp ∧ (1 ≤ n → sp = spBranL (n - 1)) := by
    by_cases h1 : 1 ≤ n
    · exact ⟨_, (BL h1).G, fun _ => rfl⟩
    · refine ⟨fun _ _ _ _ => False, ⟨fun _ _ _ _ h => h.elim, fun _ _ _ _ _ _ _ _ _ _ _ _ _ h => h.elim⟩, fun z => absurd z h1⟩
  obtain ⟨spB, GB, eB⟩ := BG
  have BR : Fk P w K mg base k "branches_left" b bd ["row", "ifs", "left"] spB := ⟨GB, mB, kB, bB⟩
  refine ⟨_, (pss_cons (ps_if (pt_cmpR op_eq (pv 2) pe_int (nomark _))
      (pss_one (ps_ret (pe_gi G.norows)))
      pss_nil)
    (pss_cons (ps_if (pt_val (pe_call IH.G (hr.mono (by omega)) (by rfl) IH.m IH.k IH.b .nil pass0 (pa_cons (pv 0) pa_nil)))
      (pss_one (ps_ret (pe_ifExp (pt_cmpR op_eq (pv 1) pe_int (nomark _)) (pe_gi G.norows) (pe_call BR.G hr (by rfl) BR.m BR.k BR.b .nil pass0 (pa_cons (pv 0) (pa_cons (pe_op op_sub (pv 1) pe_int) (pa_cons (pe_op op_sub (pv 2) pe_int) pa_nil)))))))
      pss_nil)
    (pss_one (ps_ret (pe_ifExp (pt_val (pe_call IP.G (hr.mono (by omega)) (by rfl) IP.m IP.k IP.b .nil pass0 (pa_cons (pv 0) pa_nil))) (pe_op op_sub (pv 2) pe_int) (pe_gi G.norows)))))), ?_⟩
  refine ⟨_, rfl, rfl, _, rfl, ?_⟩
  rw [decide_eq_false (by intro z; have := V.int.inj z; omega)]
  refine iteF ?_
  refine ⟨_, rfl, v, rs, r, rfl, hR, hok, fun H1 s1 => ⟨_, rfl, ?_⟩⟩
  cases hi : rs.isIf with
  | false =>
    refine iteF ?_
    refine ⟨_, rfl, v, rs, r, rfl, hR.same s1, hok, hi, fun H2 s2 => ⟨_, rfl, ?_⟩⟩
    refine iteT ⟨_, rfl, _, _, rfl, rfl, ?_⟩
    have e1 : rs.rc = 1 := by
      cases rs with
      | nil => exact absurd hpos (by decide)
      | iff _ _ _ _ => cases hi
      | _ => rfl
    have e2 : (l : Int) - 1 = ((l - rs.rc : Nat) : Int) := by omega
    show Q (.int ((l : Int) - 1)) H2
    rw [e2]
    exact q H2 (s1.trans s2)
  | true =>
    refine iteT ?_
    cases rs with
    | iff e A B t =>
      obtain ⟨a, u, p, xs, p', ys, r', e1, ha, te, hp, hA, hp', hB, _⟩ := hR
      cases e1
      have hn : 1 ≤ n := hok.1
      have ec : (Rs.iff e A B t).rc = 1 + A.count + B.count := rfl
      refine ⟨_, rfl, rfl, _, rfl, ?_⟩
      rw [decide_eq_false (by intro z; have := V.int.inj z; omega)]
      refine iteF ?_
      have e2 : (l : Int) - 1 = ((l - 1 : Nat) : Int) := by omega
      have e3 : (n : Int) - 1 = ((n - 1 : Nat) : Int) := by omega
      refine ⟨_, rfl, _, rfl, _, _, rfl, rfl, _, rfl, _, _, rfl, rfl, ?_⟩
      rw [eB hn]
      refine ⟨a, p, p', u, A, B, xs, ys, l - 1, (by show [V.ref a, V.int ((n : Int) - 1), V.int ((l : Int) - 1)] = _; rw [e2, e3]), s1 _ _ ha, s1 _ _ hp, hA.same s1, s1 _ _ hp', hB.same s1, hok.2.2.1, hok.2.2.2.1, by omega, fun H2 s2 => ?_⟩
      have e4 : l - 1 - (A.count + B.count) = l - (Rs.iff e A B t).rc := by omega
      rw [e4]
      exact q H2 (s1.trans s2)
    | nil => cases hi
    | put _ _ _ => cases hi
    | go _ _ _ _ _ => cases hi
    | wait _ _ _ _ => cases hi
    | give _ _ _ => cases hi
theorem ok_branL {n k : Nat} {f r : Addr} {fd rd : FuncData} (F : Fun K "branches_left" "branches_left" sBranL f fd) (RL : Fk P w K mg base k "rows_left" r rd ["thing", "ifs", "left"] (spRowsL n)) (G : Gf K mg) : FnOk P w K mg base CX0 (k + 1) f fd ["row", "ifs", "left"] (spBranL n) := by
  refine F.ok scBranL (fun vs H Q E h => ?_) (fun cdv A outer s H vs Q E hr h => ?_)
  · obtain ⟨a, p, p', v, A, B, xs, ys, l, rfl, _⟩ := h
    rfl
  obtain ⟨a, p, p', v, A', B, xs, ys, l, rfl, ha, hp, hA, hp', hB, oA, oB, hc, q⟩ := h
  refine ⟨_, (pss_cons (ps_set (i := 2) scBranL.nd rfl (Or.inl rfl) (pe_call RL.G hr (by rfl) RL.m RL.k RL.b .nil pass0 (pa_cons (pe_ix ix_tup (pv 0) pe_int (fun _ _ => rfl)) (pa_cons (pv 1) (pa_cons (pv 2) pa_nil)))))
    (pss_one (ps_ret (pe_ifExp (pt_cmpR op_eq (pv 2) (pe_gi G.norows) (nomark _)) (pe_gi G.norows) (pe_call RL.G hr (by rfl) RL.m RL.k RL.b .nil pass0 (pa_cons (pe_ix ix_tup (pv 0) pe_int (fun _ _ => rfl)) (pa_cons (pv 1) (pa_cons (pv 2) pa_nil)))))))), ?_⟩
  refine ⟨_, rfl, a, _, 2, _, rfl, rfl, SqT.of ha, atI_nat (j := 2) rfl, _, rfl, _, rfl, p, A', xs, l, rfl, hp, hA, oA, by omega, fun H1 s1 => ?_⟩
  refine ⟨_, rfl, rfl, _, rfl, ?_⟩
  rw [decide_eq_false (by intro z; have := V.int.inj z; omega)]
  refine iteF ?_
  refine ⟨_, rfl, a, _, 3, _, rfl, rfl, SqT.of (s1 _ _ ha), atI_nat (j := 3) rfl, _, rfl, _, rfl, p', B, ys, l - A'.count, rfl, s1 _ _ hp', hB.same s1, oB, by omega, fun H2 s2 => ?_⟩
  have e4 : l - A'.count - B.count = l - (A'.count + B.count) := by omega
  rw [e4]
  exact q H2 (s1.trans s2)
theorem ok_rowsL {n k : Nat} {f r : Addr} {fd rd : FuncData} (F : Fun K "rows_left" "rows_left" sRowsL f fd) (RW : Fk P w K mg base k "row_left" r rd ["thing", "ifs", "left"] (spRowL n)) (T : Bi mg) (G : Gf K mg) (mt : mg "tuple" = none) : FnOk P w K mg base CX0 (k + 1) f fd ["thing", "ifs", "left"] (spRowsL n) := by
  refine F.ok scRowsL (fun vs H Q E h => ?_) (fun cdv A outer s H vs Q E hr h => ?_)
  · obtain ⟨p, rs, xs, l, rfl, _⟩ := h
    rfl
  obtain ⟨p, rs, xs, l, rfl, hp, hR, hok, hc, q⟩ := h
  refine ⟨_, (pss_cons (ps_if (pt_not (pt_val (pe_callB call_isi (by rfl) T.isinstance (by decide +kernel) (pa_cons (pv 0) (pa_cons (pe_bltn (v := .ty "tuple") (by rfl) mt (by decide +kernel) rfl) pa_nil)))))
      (pss_one (ps_ret (pe_gi G.norows)))
      pss_nil)
    (pss_cons (ps_for PassesOwn.never rfl (pi_tup (pv 0)) (pg_name (i := 3) scRowsL.nd rfl (.inl rfl))
      (pss_cons (ps_set (i := 2) scRowsL.nd rfl (Or.inl rfl) (pe_call RW.G hr (by rfl) RW.m RW.k RW.b .nil pass0 (pa_cons (pv 3) (pa_cons (pv 1) (pa_cons (pv 2) pa_nil)))))
    (pss_one (ps_if (pt_cmpR op_eq (pv 2) (pe_gi G.norows) (nomark _))
      (pss_one (ps_ret (pe_gi G.norows)))
      pss_nil))))
    (pss_one (ps_ret (pv 2))))), ?_⟩
  refine ⟨_, rfl, _, _, _, _, true, rfl, .ty "tuple", .base (.tup hp), kit_ty (by decide +kernel), _, rfl, ?_⟩
  refine ⟨_, rfl, p, rfl, ⟨_, SqT.of hp⟩, ?_⟩
  refine for_tup (K := K) (a := p) (xs := xs) (fun i σ H' => ∃ (rs' : Rs) (l' : Nat) (y : Option V), σ = [some (.ref p), some (.int n), some (.int l'), y] ∧ RsIn H' rs' (xs.drop i) ∧ Rs.ok n rs' ∧ rs'.count ≤ l' ∧ l' - rs'.count = l - rs.count ∧ Same H H') ?_ ?_ ?_ ?_
  · exact ⟨rs, l, none, rfl, hR, hok, hc, rfl, Same.refl H⟩
  · rintro i σ H' _ ⟨rs', l', y, _, _, _, _, _, s'⟩
    exact SqT.of (s' _ _ hp)
  · rintro i v σ H1 hv ⟨rs', l', y, rfl, hR', ok', hc', e', s1⟩
    have hd : xs.drop i = v :: xs.drop (i + 1) := by
      obtain ⟨hi, e⟩ := List.getElem?_eq_some_iff.mp hv
      rw [List.drop_eq_getElem_cons hi, e]
    rw [hd] at hR'
    have ce := rs'.count_eq
    refine ⟨_, rfl, _, rfl, _, rfl, v, rs', _, l', rfl, hR', ok', by omega, fun H2 s2 => ?_⟩
    refine ⟨_, rfl, rfl, _, rfl, ?_⟩
    rw [decide_eq_false (by intro z; have := V.int.inj z; omega)]
    refine iteF ?_
    exact ⟨rs'.tl, l' - rs'.rc, _, rfl, hR'.tl.same s2, Rs.ok_tl ok', by omega, by omega, s1.trans s2⟩
  · rintro σ H1 ⟨rs', l', y, rfl, hR', ok', hc', e', s1⟩
    rw [List.drop_length] at hR'
    have z : rs'.count = 0 := by
      cases rs' with
      | nil => rfl
      | put _ _ _ => obtain ⟨_, _, _, e, _⟩ := hR'; cases e
      | go _ _ _ _ _ => obtain ⟨_, _, _, _, e, _⟩ := hR'; cases e
      | wait _ _ _ _ => obtain ⟨_, _, _, e, _⟩ := hR'; cases e
      | iff _ _ _ _ => obtain ⟨_, _, _, _, _, _, _, e, _⟩ := hR'; cases e
      | give _ _ _ => obtain ⟨_, _, _, e, _⟩ := hR'; cases e
    refine ⟨_, rfl, ?_⟩
    rw [show l' = l - rs.count by omega]
    exact q H1 s1
theorem ok_isWork {f t i a v r : Addr} {fd td idd ad vd rd : FuncData} (F : Fun K "is_work" "is_work" sIsWork f fd) (TO : Fk P w K mg base 1 "is_tuple_of" t td ["thing", "many"] spTupOf) (IN : Fk P w K mg base 1 "is_name" i idd ["thing"] spIsName) (AN : Fk P w K mg base 2 "are_names" a ad ["thing"] spAreNames)
    (WI : Fk P w K mg base 2 "is_whole_within" v vd ["thing", "most"] spWithin) (RL : Fk P w K mg base 22 "rows_left" r rd ["thing", "ifs", "left"] (spRowsL 3)) (G : Gf K mg) : FnOk P w K mg base CX0 23 f fd ["thing"] spIsWork := by
  refine F.ok scIsWork (fun vs H Q E h => ?_) (fun cdv A outer s H vs Q E hr h => ?_)
  · obtain ⟨v, W, rfl, _⟩ := h
    rfl
  obtain ⟨v, W, rfl, ⟨a, pn, pr, xs, rfl, ha, hpn, hpr, hR⟩, ok, q⟩ := h
  refine ⟨_, (pss_cons (ps_if (PW.pt (pw_or (pt_not (pt_val (pe_call TO.G (hr.mono (by omega)) (by rfl) TO.m TO.k TO.b .nil pass0 (pa_cons (pv 0) (pa_cons pe_int pa_nil))))) (pw_or1 (pt_cmpR op_ne (pe_ix ix_tup (pv 0) pe_int (fun _ _ => rfl)) pe_str (nomark _)))))
      (pss_one (ps_ret pe_bl))
      pss_nil)
    (pss_cons (ps_asg (pe_slice sl_tup (pv 0) (po_some pe_int) po_none) (pg_tup rfl (pgs_cons (pg_name (i := 1) scIsWork.nd rfl (.inl rfl)) (pgs_cons (pg_name (i := 2) scIsWork.nd rfl (.inl rfl)) (pgs_cons (pg_name (i := 3) scIsWork.nd rfl (.inl rfl)) (pgs_cons (pg_name (i := 4) scIsWork.nd rfl (.inl rfl)) pgs_nil))))))
    (pss_cons (ps_if (PW.pt (pw_or (pt_not (pt_val (pe_call IN.G (hr.mono (by omega)) (by rfl) IN.m IN.k IN.b .nil pass0 (pa_cons (pv 1) pa_nil)))) (pw_or (pt_not (pt_val (pe_call AN.G (hr.mono (by omega)) (by rfl) AN.m AN.k AN.b .nil pass0 (pa_cons (pv 2) pa_nil)))) (pw_or1 (pt_not (pt_val (pe_call WI.G (hr.mono (by omega)) (by rfl) WI.m WI.k WI.b .nil pass0 (pa_cons (pv 3) (pa_cons (pe_gi G.room) pa_nil)))))))))
      (pss_one (ps_ret pe_bl))
      pss_nil)
    (pss_one (ps_ret (pe_cmpR op_ne (pe_call RL.G (hr.mono (by omega)) (by rfl) RL.m RL.k RL.b .nil pass0 (pa_cons (pv 4) (pa_cons (pe_gi G.ifs) (pa_cons (pe_gi G.rows) pa_nil)))) (pe_gi G.norows) (nomark _))))))), ?_⟩
  refine ⟨_, rfl, a, _, 5, rfl, ha, _, rfl, ?_⟩
  refine ⟨_, rfl, a, _, 0, _, rfl, rfl, SqT.of ha, atI_nat rfl, rfl, _, rfl, ?_⟩
  refine iteNS rfl ?_
  refine ⟨_, rfl, 1, rfl, a, _, rfl, SqT.of ha, (show ¬ (HT.sIx 5 0 (some 1) = 0 ∧ HT.sIx 5 5 none = 5) by decide), fun p hp => ?_⟩
  have s1 := same_new hp (.tup [.str W.name, .ref pn, .int W.room, .ref pr])
  refine ⟨p, _, rfl, SqT.of upd_same, rfl, _, _, rfl, _, _, rfl, _, _, rfl, _, _, rfl, rfl, ?_⟩
  refine ⟨_, rfl, W.name, rfl, ok.name, fun H2 s2 => ⟨_, rfl, ?_⟩⟩
  have s12 := s1.trans s2
  refine ⟨_, rfl, pn, W.names, rfl, s12 _ _ hpn, ok.few, ok.names, ok.nd, fun H3 s3 => ⟨_, rfl, ?_⟩⟩
  have s13 := s12.trans s3
  refine ⟨_, rfl, W.room, 1000, rfl, ok.room0, ok.room1, _, rfl, ?_⟩
  refine ⟨_, rfl, pr, W.rows, xs, 40, rfl, s13 _ _ hpr, hR.same s13, ok.rows, ok.count, fun H4 s4 => ⟨rfl, ?_⟩⟩
  rw [decide_eq_false (by intro z; have := V.int.inj z; omega)]
  exact q H4 (s13.trans s4)
theorem ok_chkWork {f i : Addr} {fd idd : FuncData} (F : Fun K "check_work" "check_work" sChkWork f fd) (IW : Fk P w K mg base 23 "is_work" i idd ["thing"] spIsWork) : FnOk P w K mg base CX0 24 f fd ["thing"] spChkWork := by
  refine F.ok scChkWork (fun vs H Q E h => ?_) (fun cdv A outer s H vs Q E hr h => ?_)
  · obtain ⟨v, W, rfl, _⟩ := h
    rfl
  obtain ⟨v, W, rfl, hW, ok, q⟩ := h
  refine ⟨_, (pss_one (ps_if (pt_not (pt_val (pe_call IW.G (hr.mono (by omega)) (by rfl) IW.m IW.k IW.b .nil pass0 (pa_cons (pv 0) pa_nil))))
      (pss_one ps_never)
      pss_nil)), ?_⟩
  exact ⟨_, rfl, v, W, rfl, hW, ok, fun H1 s1 => ⟨_, rfl, q H1 s1⟩⟩
end
end SH

set_option Elab.async false
set_option linter.all false
set_option maxRecDepth 100000
namespace SH
open PySem L2
abbrev sChkWorks : Stmt := topS 53
abbrev sStartsIn : Stmt := topS 57
abbrev sChkStarts : Stmt := topS 54
abbrev sHanded : Stmt := topS 55
abbrev sChkStart : Stmt := topS 56
abbrev sBookInit : Stmt := inClass (topS 58) 0
theorem scChkWorks : FnScope ["thing", "work"] ["thing"] (defScope sChkWorks) := ⟨rfl, rfl, rfl, by decide +kernel, rfl, by decide +kernel, by decide +kernel⟩
theorem scStartsIn : FnScope ["rows", "starts", "row"] ["rows"] (defScope sStartsIn) := ⟨rfl, rfl, rfl, by decide +kernel, rfl, by decide +kernel, by decide +kernel⟩
theorem scChkStarts : FnScope ["works", "handed", "work", "start"] ["works"] (defScope sChkStarts) := ⟨rfl, rfl, rfl, by decide +kernel, rfl, by decide +kernel, by decide +kernel⟩
theorem scHanded : FnScope ["works", "work"] ["works"] (defScope sHanded) := ⟨rfl, rfl, rfl, by decide +kernel, rfl, by decide +kernel, by decide +kernel⟩
theorem scChkStart : FnScope ["start", "handed"] ["start", "handed"] (defScope sChkStart) := ⟨rfl, rfl, rfl, by decide +kernel, rfl, by decide +kernel, by decide +kernel⟩
theorem scBookInit : FnScope ["self", "works"] ["self", "works"] (defScope sBookInit) := ⟨rfl, rfl, rfl, by decide +kernel, rfl, by decide +kernel, by decide +kernel⟩
/-- over a list that stays -/
theorem txc_list {Pr : Program} {w : World} {K : PySem.W.Frag} {a : Addr} {xs : List V} {g : TG} {te : TE} {vs : List Nat} {σ : St} {H1 : Hp} {D : Addr} {Qd : Hp → Prop} (Pv : Nat → Hp → Prop) (h0 : Pv 0 (upd H1 D (TxtO Pr w D []))) (hl : ∀ i H, i ≤ xs.length → Pv i H → SqL K H a xs)
    (hs : ∀ i x H, xs[i]? = some x → Pv i H → g x (wipe σ vs) H fun σ2 H2 => wipe σ2 vs = wipe σ vs ∧ te σ2 H2 fun y H4 => ∃ (z : Str) (l : List Str), y = .str z ∧ H4 D = some (TxtO Pr w D l) ∧ l.length + 1 < scanBound ∧ Pv (i + 1) (upd H4 D (TxtO Pr w D (SHSet.addT l z)))) (hd : ∀ H, Pv xs.length H → Qd H) :
    ∃ W : Nat → Nat → Hp → Prop, (∃ m, W 0 m (upd H1 D (TxtO Pr w D []))) ∧ ∀ i m H, W i m H → ((Itl K a).stop i H ∧ Qd H) ∨ ((Itl K a).go i H ∧ ∃ Nx : Hp → Prop, (∀ H', Nx H' → ∃ m', m' < m ∧ W (i + 1) m' H') ∧
      ∀ x H', (Itl K a).yld i H x H' → g x (wipe σ vs) H' fun σ2 H2 => wipe σ2 vs = wipe σ vs ∧ te σ2 H2 fun y H4 => ∃ (z : Str) (l : List Str), y = .str z ∧ H4 D = some (TxtO Pr w D l) ∧ l.length + 1 < scanBound ∧ Nx (upd H4 D (TxtO Pr w D (SHSet.addT l z)))) := by
  refine ⟨fun i m H => m + i = xs.length ∧ Pv i H, ⟨xs.length, Nat.add_zero _, h0⟩, ?_⟩
  rintro i m H ⟨e, p⟩
  have q := hl i H (by omega) p
  rcases Nat.eq_zero_or_pos m with z | z
  · exact .inl ⟨⟨xs, q, by omega⟩, hd H (by rw [show xs.length = i by omega]; exact p)⟩
  · have lt : i < xs.length := by omega
    exact .inr ⟨⟨xs, xs[i], q, List.getElem?_eq_getElem lt⟩, Pv (i + 1), fun H' p' => ⟨m - 1, by omega, by omega, p'⟩, fun x H' y => y.1 ▸ hs i x H (y.2 xs q) p⟩
theorem dc_list {K : PySem.W.Frag} {a : Addr} {xs : List V} {g : TG} {tk tv : TE} {vs : List Nat} {σ : St} {H1 : Hp} {D : Addr} {Qd : Hp → Prop} (Pv : Nat → Hp → Prop) (h0 : Pv 0 (upd H1 D (.dK []))) (hl : ∀ i H, i ≤ xs.length → Pv i H → SqL K H a xs)
    (hs : ∀ i x H, xs[i]? = some x → Pv i H → g x (wipe σ vs) H fun σ2 H2 => wipe σ2 vs = wipe σ vs ∧ tYes σ2 H2 fun b H3 => if b = true then tk σ2 H3 fun y H4 => tv σ2 H4 fun z H5 => ∃ kvs k, y = kV k ∧ H5 D = some (.dK kvs) ∧ kvs.length < sizeLine ∧ Pv (i + 1) (upd H5 D (.dK (putK kvs k z))) else Pv (i + 1) H3) (hd : ∀ H, Pv xs.length H → Qd H) :
    ∃ W : Nat → Nat → Hp → Prop, (∃ m, W 0 m (upd H1 D (.dK []))) ∧ ∀ i m H, W i m H → ((Itl K a).stop i H ∧ Qd H) ∨ ((Itl K a).go i H ∧ ∃ Nx : Hp → Prop, (∀ H', Nx H' → ∃ m', m' < m ∧ W (i + 1) m' H') ∧
      ∀ x H', (Itl K a).yld i H x H' → g x (wipe σ vs) H' fun σ2 H2 => wipe σ2 vs = wipe σ vs ∧ tYes σ2 H2 fun b H3 => if b = true then tk σ2 H3 fun y H4 => tv σ2 H4 fun z H5 => ∃ kvs k, y = kV k ∧ H5 D = some (.dK kvs) ∧ kvs.length < sizeLine ∧ Nx (upd H5 D (.dK (putK kvs k z))) else Nx H3) := by
  refine ⟨fun i m H => m + i = xs.length ∧ Pv i H, ⟨xs.length, Nat.add_zero _, h0⟩, ?_⟩
  rintro i m H ⟨e, p⟩
  have q := hl i H (by omega) p
  rcases Nat.eq_zero_or_pos m with z | z
  · exact .inl ⟨⟨xs, q, by omega⟩, hd H (by rw [show xs.length = i by omega]; exact p)⟩
  · have lt : i < xs.length := by omega
    exact .inr ⟨⟨xs, xs[i], q, List.getElem?_eq_getElem lt⟩, Pv (i + 1), fun H' p' => ⟨m - 1, by omega, by omega, p'⟩, fun x H' y => y.1 ▸ hs i x H (y.2 xs q) p⟩
/-! ### rows one behind another -/
def Rs.app : Rs → Rs → Rs
  | .nil, b => b
  | .put x e t, b => .put x e (t.app b)
  | .go w x f es t, b => .go w x f es (t.app b)
  | .wait x y e t, b => .wait x y e (t.app b)
  | .iff e p q t, b => .iff e p q (t.app b)
  | .give w e t, b => .give w e (t.app b)
theorem Rs.app_starts (b : Rs) : ∀ a : Rs, (a.app b).starts = a.starts ++ b.starts
  | .nil => rfl
  | .put _ _ t => Rs.app_starts b t
  | .go _ _ f es t => by show (f, es.length) :: (t.app b).starts = _; rw [Rs.app_starts b t]; rfl
  | .wait _ _ _ t => Rs.app_starts b t
  | .iff _ p q t => by show p.starts ++ q.starts ++ (t.app b).starts = p.starts ++ q.starts ++ t.starts ++ b.starts; rw [Rs.app_starts b t, List.append_assoc (p.starts ++ q.starts)]
  | .give _ _ t => Rs.app_starts b t
theorem Rs.app_ok {n : Nat} {b : Rs} (hb : Rs.ok n b) : ∀ {a : Rs}, Rs.ok n a → Rs.ok n (a.app b)
  | .nil, _ => hb
  | .put _ _ _, h => ⟨h.1, h.2.1, Rs.app_ok hb h.2.2⟩
  | .go _ _ _ _ _, h => ⟨h.1, h.2.1, h.2.2.1, h.2.2.2.1, Rs.app_ok hb h.2.2.2.2⟩
  | .wait _ _ _ _, h => ⟨h.1, h.2.1, h.2.2.1, Rs.app_ok hb h.2.2.2⟩
  | .iff _ _ _ _, h => ⟨h.1, h.2.1, h.2.2.1, h.2.2.2.1, Rs.app_ok hb h.2.2.2.2⟩
  | .give _ _ _, h => ⟨h.1, Rs.app_ok hb h.2⟩
theorem RsIn.app {H : Hp} {b : Rs} {ys : List V} (hb : RsIn H b ys) : ∀ {a : Rs} {xs : List V}, RsIn H a xs → RsIn H (a.app b) (xs ++ ys)
  | .nil, _, h => by cases h; exact hb
  | .put _ _ _, _, ⟨a, v, r, e, k, t, q⟩ => by cases e; exact ⟨a, v, _, rfl, k, t, RsIn.app hb q⟩
  | .go _ _ _ _ _, _, ⟨a, p, ws, r, e, k, k2, t, q⟩ => by cases e; exact ⟨a, p, ws, _, rfl, k, k2, t, RsIn.app hb q⟩
  | .wait _ _ _ _, _, ⟨a, v, r, e, k, t, q⟩ => by cases e; exact ⟨a, v, _, rfl, k, t, RsIn.app hb q⟩
  | .iff _ _ _ _, _, ⟨a, v, p, xs, p', ys, r, e, k, t, k1, q1, k2, q2, q⟩ => by cases e; exact ⟨a, v, p, xs, p', ys, _, rfl, k, t, k1, q1, k2, q2, RsIn.app hb q⟩
  | .give _ _ _, _, ⟨a, v, r, e, k, t, q⟩ => by cases e; exact ⟨a, v, _, rfl, k, t, RsIn.app hb q⟩
theorem RsIn.len {H : Hp} : ∀ {a : Rs} {xs : List V}, RsIn H a xs → xs.length ≤ a.count
  | .nil, _, h => by cases h; exact Nat.le_refl _
  | .put _ _ t, _, ⟨a, v, r, e, k, _, q⟩ => by cases e; have := RsIn.len q; show _ + 1 ≤ 1 + t.count; omega
  | .go _ _ _ _ t, _, ⟨a, p, ws, r, e, k, k2, _, q⟩ => by cases e; have := RsIn.len q; show _ + 1 ≤ 1 + t.count; omega
  | .wait _ _ _ t, _, ⟨a, v, r, e, k, _, q⟩ => by cases e; have := RsIn.len q; show _ + 1 ≤ 1 + t.count; omega
  | .iff _ A B t, _, ⟨a, v, p, xs, p', ys, r, e, k, _, k1, q1, k2, q2, q⟩ => by cases e; have := RsIn.len q; show _ + 1 ≤ 1 + A.count + B.count + t.count; omega
  | .give _ _ t, _, ⟨a, v, r, e, k, _, q⟩ => by cases e; have := RsIn.len q; show _ + 1 ≤ 1 + t.count; omega
theorem Rs.starts_le : ∀ a : Rs, a.starts.length ≤ a.count
  | .nil => Nat.le_refl _
  | .put _ _ t => by have := Rs.starts_le t; show t.starts.length ≤ 1 + t.count; omega
  | .go _ _ _ _ t => by have := Rs.starts_le t; show t.starts.length + 1 ≤ 1 + t.count; omega
  | .wait _ _ _ t => by have := Rs.starts_le t; show t.starts.length ≤ 1 + t.count; omega
  | .iff _ a b t => by
    have := Rs.starts_le t; have := Rs.starts_le a; have := Rs.starts_le b
    show (a.starts ++ b.starts ++ t.starts).length ≤ 1 + a.count + b.count + t.count
    rw [List.length_append, List.length_append]; omega
  | .give _ _ t => by have := Rs.starts_le t; show t.starts.length ≤ 1 + t.count; omega
theorem Rs.app_count (b : Rs) : ∀ a : Rs, (a.app b).count = a.count + b.count
  | .nil => (Nat.zero_add _).symm
  | .put _ _ t => by show 1 + (t.app b).count = 1 + t.count + b.count; rw [Rs.app_count b t]; omega
  | .go _ _ _ _ t => by show 1 + (t.app b).count = 1 + t.count + b.count; rw [Rs.app_count b t]; omega
  | .wait _ _ _ t => by show 1 + (t.app b).count = 1 + t.count + b.count; rw [Rs.app_count b t]; omega
  | .iff _ p q t => by show 1 + p.count + q.count + (t.app b).count = 1 + p.count + q.count + t.count + b.count; rw [Rs.app_count b t]; omega
  | .give _ _ t => by show 1 + (t.app b).count = 1 + t.count + b.count; rw [Rs.app_count b t]; omega
/-! ### goes and calls as they lie -/
def StAt (H : Hp) (st : Str × Nat) (v : V) : Prop := ∃ (a : Addr) (wd x : V) (p : Addr) (ws : List V), v = .ref a ∧ H a = some (.tup [wd, x, .str st.1, .ref p]) ∧ H p = some (.tup ws) ∧ ws.length = st.2
theorem StAt.same {H H' : Hp} {st : Str × Nat} {v : V} (h : Same H H') : StAt H st v → StAt H' st v
  | ⟨a, wd, x, p, ws, e, k1, k2, l⟩ => ⟨a, wd, x, p, ws, e, h _ _ k1, h _ _ k2, l⟩
def StsAt (H : Hp) (sts : List (Str × Nat)) (vs : List V) : Prop := vs.length = sts.length ∧ ∀ (i : Nat) (st : Str × Nat) (v : V), sts[i]? = some st → vs[i]? = some v → StAt H st v
theorem StsAt.same {H H' : Hp} {sts : List (Str × Nat)} {vs : List V} (h : Same H H') (q : StsAt H sts vs) : StsAt H' sts vs := ⟨q.1, fun i st v a b => (q.2 i st v a b).same h⟩
theorem StsAt.app {H : Hp} {s1 s2 : List (Str × Nat)} {v1 v2 : List V} (a : StsAt H s1 v1) (b : StsAt H s2 v2) : StsAt H (s1 ++ s2) (v1 ++ v2) := by
  refine ⟨by rw [List.length_append, List.length_append, a.1, b.1], fun i st v h1 h2 => ?_⟩
  by_cases hi : i < s1.length
  · rw [List.getElem?_append_left hi] at h1
    rw [List.getElem?_append_left (by rw [a.1]; exact hi)] at h2
    exact a.2 i st v h1 h2
  · rw [List.getElem?_append_right (by omega)] at h1
    rw [List.getElem?_append_right (by rw [a.1]; omega), a.1] at h2
    exact b.2 _ st v h1 h2
theorem StsAt.one {H : Hp} {st : Str × Nat} {v : V} (h : StAt H st v) : StsAt H [st] [v] := ⟨rfl, fun i st' v' h1 h2 => by
  cases i with
  | zero => cases h1; cases h2; exact h
  | succ i => simp at h1⟩
theorem StAt.upd_lst {H : Hp} {b : Addr} {ys zs : List V} (hb : H b = some (.lst ys)) {st : Str × Nat} {v : V} : StAt H st v → StAt (upd H b (.lst zs)) st v
  | ⟨a, wd, x, p, ws, e, k1, k2, l⟩ => ⟨a, wd, x, p, ws, e, by rw [upd_ne (lst_ne k1 hb)]; exact k1, by rw [upd_ne (lst_ne k2 hb)]; exact k2, l⟩
theorem StsAt.upd_lst {H : Hp} {b : Addr} {ys zs : List V} (hb : H b = some (.lst ys)) {sts : List (Str × Nat)} {vs : List V} (q : StsAt H sts vs) : StsAt (upd H b (.lst zs)) sts vs := ⟨q.1, fun i st v a c => (q.2 i st v a c).upd_lst hb⟩
def WksIn (H : Hp) (Ws : List Wk) (vs : List V) : Prop := vs.length = Ws.length ∧ ∀ (i : Nat) (v : V), vs[i]? = some v → ∃ W, Ws[i]? = some W ∧ WkIn H W v
theorem WksIn.same {H H' : Hp} {Ws : List Wk} {vs : List V} (h : Same H H') (q : WksIn H Ws vs) : WksIn H' Ws vs := ⟨q.1, fun i v e => by
  obtain ⟨W, a, b⟩ := q.2 i v e
  exact ⟨W, a, b.same h⟩⟩
structure WksOk (Ws : List Wk) : Prop where
  few : Ws.length ≤ 12
  each : ∀ W ∈ Ws, W.ok
  nd : (Ws.map Wk.name).Nodup
  starts : ∀ W ∈ Ws, ∀ st ∈ W.rows.starts, ∃ W' ∈ Ws, W'.name = st.1 ∧ W'.names.length = st.2
def spChkWorks : Sp := fun vs H Q _ => ∃ (l : Addr) (us : List V) (Ws : List Wk), vs = [.ref l] ∧ H l = some (.lst us) ∧ WksIn H Ws us ∧ WksOk Ws ∧ ∀ H', Same H H' → Q .non H'
def spStartsIn (n : Nat) : Sp := fun vs H Q _ => ∃ (p : Addr) (xs : List V) (rs : Rs), vs = [.ref p] ∧ H p = some (.tup xs) ∧ RsIn H rs xs ∧ Rs.ok n rs ∧ rs.count ≤ 1000 ∧
  ∀ (l : Addr) (ss : List V) (H' : Hp), Same H H' → H l = none → H' l = some (.lst ss) → StsAt H' rs.starts ss → Q (.ref l) H'
section
variable {P : Program} {w : World} {K : PySem.W.Frag} {mg : Str → Option Value} {base : Heap}
theorem ok_chkWorks {f c : Addr} {fd cd : FuncData} (F : Fun K "check_works" "check_works" sChkWorks f fd) (CW : Fk P w K mg base 24 "check_work" c cd ["thing"] spChkWork) (T : Bi mg) (G : Gf K mg) (mt : mg "list" = none) : FnOk P w K mg base CX0 25 f fd ["thing"] spChkWorks := by
  refine F.ok scChkWorks (fun vs H Q E h => ?_) (fun cdv A outer s H vs Q E hr h => ?_)
  · obtain ⟨l, us, Ws, rfl, _⟩ := h
    rfl
  obtain ⟨l, us, Ws, rfl, hl, hW, ok, q⟩ := h
  have h12 := ok.few
  refine ⟨_, (pss_cons (ps_if (PW.pt (pw_or (pt_not (pt_val (pe_callB call_isi (by rfl) T.isinstance (by decide +kernel) (pa_cons (pv 0) (pa_cons (pe_bltn (v := .ty "list") (by rfl) mt (by decide +kernel) rfl) pa_nil))))) (pw_or1 (pt_cmpR op_gt (pe_callB call_len_seq (by rfl) T.len (by decide +kernel) (pa_cons (pv 0) pa_nil)) (pe_gi G.works) (nomark _)))))
      (pss_one ps_never)
      pss_nil)
    (pss_cons (ps_for PassesOwn.never rfl (pi_list (pv 0)) (pg_name (i := 1) scChkWorks.nd rfl (.inl rfl))
      (pss_one (ps_expr (pe_call CW.G (hr.mono (by omega)) (by rfl) CW.m CW.k CW.b .nil pass0 (pa_cons (pv 1) pa_nil)))))
    (pss_one (ps_if (pt_cmpR op_lt (pe_callB call_lenTxt (by rfl) T.len (by decide +kernel) (pa_cons (pe_txc (own := [("work", 1)]) (g := gName 1) (by rfl) scChkWorks.nd (pi_list (pv 0)) (blkOk_by (own := [("work", 1)]) (N := ["thing", "work"]) (sc := defScope sChkWorks) (by decide +kernel)) (fun _ _ _ _ _ => pg_name (i := 1) scChkWorks.nd rfl (Or.inl rfl)) (fun _ _ _ _ _ => (pe_ix (ix_tupK K) (pv 1) pe_int (fun _ _ => rfl)))) pa_nil)) (pe_callB call_len_seq (by rfl) T.len (by decide +kernel) (pa_cons (pv 0) pa_nil)) (nomark _))
      (pss_one ps_never)
      pss_nil)))), ?_⟩
  refine ⟨_, rfl, _, _, _, _, true, rfl, .ty "list", .base (.lst hl), kit_ty (by decide +kernel), _, rfl, ?_⟩
  refine ⟨_, rfl, l, _, rfl, .inl (SqL.of hl), _, _, rfl, rfl, _, rfl, ?_⟩
  rw [decide_eq_false (by rw [hW.1]; omega : ¬ (12 : Int) < (us.length : Nat))]
  refine iteF ?_
  refine ⟨_, rfl, l, rfl, ⟨_, SqL.of hl⟩, ?_⟩
  refine for_list (K := K) (a := l) (xs := us) (fun i σ H' => ∃ y : Option V, σ = [some (.ref l), y] ∧ Same H H') ⟨none, rfl, Same.refl H⟩ (fun i σ H' _ ⟨_, _, s'⟩ => SqL.of (s' _ _ hl)) ?_ ?_
  · rintro i v σ H1 hv ⟨y, rfl, s1⟩
    obtain ⟨W, hWi, hin⟩ := hW.2 i v hv
    exact ⟨_, rfl, v, W, rfl, hin.same s1, ok.each W (List.mem_of_getElem? hWi), fun H2 s2 => ⟨_, rfl, s1.trans s2⟩⟩
  · rintro σ H1 ⟨y, rfl, s1⟩
    refine ⟨_, rfl, l, rfl, ⟨_, SqL.of (s1 _ _ hl)⟩, ?_⟩
    intro D hD
    refine txc_list (Pr := P) (w := w) (K := K) (a := l) (xs := us) (fun j H' => H' D = some (TxtO P w D ((Ws.map Wk.name).take j)) ∧ Same H1 H') ⟨upd_same, same_new hD _⟩ (fun j H' _ h => SqL.of (h.2 _ _ (s1 _ _ hl))) ?_ ?_
    · rintro j v H2 hv ⟨hD2, s2⟩
      obtain ⟨W, hWi, hin⟩ := hW.2 j v hv
      have hj : j < Ws.length := (List.getElem?_eq_some_iff.mp hWi).1
      obtain ⟨a, pn, pr, xs, rfl, ha, _⟩ := hin.same (s1.trans s2)
      refine ⟨rfl, ?_⟩
      refine ⟨_, rfl, a, _, 1, _, rfl, rfl, SqT.of ha, atI_nat (j := 1) rfl, W.name, _, rfl, hD2, ?_, ?_, ?_⟩
      · rw [List.length_take, List.length_map]
        unfold scanBound
        omega
      · have e : (Ws.map Wk.name)[j]? = some W.name := by rw [List.getElem?_map, hWi]; rfl
        have e2 : SHSet.addT ((Ws.map Wk.name).take j) W.name = (Ws.map Wk.name).take (j + 1) := by
          unfold SHSet.addT
          rw [List.take_add_one, e]
          refine if_neg fun m => ?_
          obtain ⟨i, hi, ei⟩ := List.mem_iff_getElem.mp m
          rw [List.length_take] at hi
          rw [List.getElem_take] at ei
          obtain ⟨h1, e1⟩ := List.getElem?_eq_some_iff.mp e
          have := (List.getElem_inj ok.nd).mp (ei.trans e1.symm)
          omega
        rw [upd_same, e2]
      · intro b o z
        rw [upd_ne (ne_of_none z hD)]
        exact s2 _ _ z
    · rintro H2 ⟨hD2, s2⟩
      have hle : us.length = (Ws.map Wk.name).length := by rw [hW.1, List.length_map]
      rw [hle, List.take_length] at hD2
      refine ⟨D, _, rfl, hD2, by rw [List.length_map]; omega, ?_⟩
      refine ⟨_, rfl, l, _, rfl, .inl (SqL.of (s2 _ _ (s1 _ _ hl))), _, _, rfl, rfl, _, rfl, ?_⟩
      rw [decide_eq_false (by rw [hle]; omega)]
      refine iteF ?_
      exact q H2 (s1.trans s2)
theorem ok_startsIn {n : Nat} {f : Addr} {fd : FuncData} (F : Fun K "starts_in" "starts_in" sStartsIn f fd) (SI : 1 ≤ n → FnOk P w K mg base CX0 n f fd ["rows"] (spStartsIn (n - 1))) (mS : mg "starts_in" = some (.ref f)) (bS : Binds K fd ["rows"] []) : FnOk P w K mg base CX0 (n + 1) f fd ["rows"] (spStartsIn n) := by
  refine F.ok scStartsIn (fun vs H Q E h => ?_) (fun cdv A outer s H vs Q E hr h => ?_)
  · obtain ⟨p, xs, rs, rfl, _⟩ := h
    rfl
  obtain ⟨p, xs, rs, rfl, hp, hR, hok, hc, q⟩ := h
  have BG : ∃ sp, FnOk P w K mg base CX0 n f fd ["rows"] sp ∧ (1 ≤ n → sp = spStartsIn (n - 1)) := by
    by_cases h1 : 1 ≤ n
    · exact ⟨_, SI h1, fun _ => rfl⟩
    · refine ⟨fun _ _ _ _ => False, ⟨fun _ _ _ _ h => h.elim, fun _ _ _ _ _ _ _ _ _ _ _ _ _ h => h.elim⟩, fun z => absurd z h1⟩
  obtain ⟨spB, GB, eB⟩ := BG
  have SR : Fk P w K mg base n "starts_in" f fd ["rows"] spB := ⟨GB, mS, F.kp, bS⟩
  refine ⟨_, (pss_cons (ps_set (i := 1) scStartsIn.nd rfl (Or.inl rfl) (pe_lst pa_nil))
    (pss_cons (ps_for PassesOwn.never rfl (pi_tup (pv 0)) (pg_name (i := 2) scStartsIn.nd rfl (.inl rfl))
      (pss_one (ps_if (pt_cmpR op_in_seq (pe_ix ix_tup (pv 2) pe_int (fun _ _ => rfl)) (pe_tup (pa_cons pe_str (pa_cons pe_str pa_nil))) rfl)
      (pss_one (ps_expr (pe_bm PySem.F.plainAttrs_list PySem.F.slot_list_append PySem.F.type_list_append mt_append (pv 1) (pa_cons (pv 2) pa_nil))))
      (pss_one (ps_if (pt_cmpR op_eq (pe_ix ix_tup (pv 2) pe_int (fun _ _ => rfl)) pe_str (nomark _))
      (pss_one (ps_expr (pe_bm PySem.F.plainAttrs_list PySem.F.slot_list_extend PySem.F.type_list_extend mt_extend (pv 1) (pa_cons (pe_call SR.G hr (by rfl) SR.m SR.k SR.b .nil pass0 (pa_cons (pe_op op_catA (pe_ix ix_tup (pv 2) pe_int (fun _ _ => rfl)) (pe_ix ix_tup (pv 2) pe_int (fun _ _ => rfl))) pa_nil)) pa_nil))))
      pss_nil)))))
    (pss_one (ps_ret (pv 1))))), ?_⟩
  have hs : sizeLine = 16777216 := by decide
  refine ⟨Nat.zero_le _, fun l hl => ?_⟩
  refine ⟨_, rfl, p, rfl, ⟨_, SqT.of ((same_new hl _) _ _ hp)⟩, ?_⟩
  have npl : p ≠ l := ne_of_none hp hl
  refine for_tup (K := K) (a := p) (xs := xs) (fun i σ H' => ∃ (rs' : Rs) (done : List (Str × Nat)) (ss : List V) (y : Option V), σ = [some (.ref p), some (.ref l), y] ∧ RsIn H' rs' (xs.drop i) ∧ Rs.ok n rs' ∧ done ++ rs'.starts = rs.starts ∧ done.length + rs'.count ≤ rs.count ∧ H' l = some (.lst ss) ∧ StsAt H' done ss ∧ Same H H') ?_ ?_ ?_ ?_
  · exact ⟨rs, [], [], none, rfl, hR.same (same_new hl _), hok, rfl, by show 0 + rs.count ≤ rs.count; omega, upd_same, ⟨rfl, fun i st v h1 _ => by simp at h1⟩, same_new hl _⟩
  · rintro i σ H' _ ⟨_, _, _, _, _, _, _, _, _, _, _, s'⟩
    exact SqT.of (s' _ _ hp)
  · rintro i v σ H1 hv ⟨rs', done, ss, y, rfl, hR', ok', hd', hc', hl1, hst, s1⟩
    have hdr : xs.drop i = v :: xs.drop (i + 1) := by
      obtain ⟨hi, e⟩ := List.getElem?_eq_some_iff.mp hv
      rw [List.drop_eq_getElem_cons hi, e]
    rw [hdr] at hR'
    have hcc := rs'.count_eq
    have pos := Rs.rc_pos hR'
    have htl := hR'.tl
    have ssl : ss.length = done.length := hst.1
    -- a row that is none of these
    have other : ∀ (H2 : Hp), Same H1 H2 → rs'.starts = rs'.tl.starts → ∃ (rs' : Rs) (done : List (Str × Nat)) (ss : List V) (y : Option V), [some (V.ref p), some (V.ref l), some v] = [some (.ref p), some (.ref l), y] ∧ RsIn H2 rs' (xs.drop (i + 1)) ∧ Rs.ok n rs' ∧ done ++ rs'.starts = rs.starts ∧ done.length + rs'.count ≤ rs.count ∧ H2 l = some (.lst ss) ∧ StsAt H2 done ss ∧ Same H H2 := fun H2 s2 e => ⟨rs'.tl, done, ss, _, rfl, htl.same s2, Rs.ok_tl ok', by rw [← e]; exact hd', by omega, s2 _ _ hl1, hst.same s2, s1.trans s2⟩
    have look : ∀ (z : Str) (us : List V) (a : Addr), v = .ref a → H1 a = some (.tup (.str z :: us)) → z ≠ "go" → z ≠ "call" → z ≠ "if" → rs'.starts = rs'.tl.starts → True := fun _ _ _ _ _ _ _ _ _ => trivial
    cases rs' with
    | nil => cases hR'
    | put x e t =>
      obtain ⟨a, u, r', e1, ha, _⟩ := hR'
      cases e1
      refine ⟨_, rfl, a, _, 0, _, rfl, rfl, SqT.of ha, atI_nat rfl, (by show 2 ≤ sizeLine; decide), fun b hb => ?_⟩
      have s2 := same_new hb (.tup [.str "go", .str "call"])
      refine ⟨b, _, rfl, .inr (SqT.of upd_same), rfl, rfl, false, (by decide +kernel), ?_⟩
      refine ⟨_, rfl, a, _, 0, _, rfl, rfl, SqT.of (s2 _ _ ha), atI_nat rfl, rfl, false, (by decide +kernel), ?_⟩
      exact other _ s2 rfl
    | wait x y' oe t =>
      obtain ⟨a, u, r', e1, ha, _⟩ := hR'
      cases e1
      refine ⟨_, rfl, a, _, 0, _, rfl, rfl, SqT.of ha, atI_nat rfl, (by show 2 ≤ sizeLine; decide), fun b hb => ?_⟩
      have s2 := same_new hb (.tup [.str "go", .str "call"])
      refine ⟨b, _, rfl, .inr (SqT.of upd_same), rfl, rfl, false, (by decide +kernel), ?_⟩
      refine ⟨_, rfl, a, _, 0, _, rfl, rfl, SqT.of (s2 _ _ ha), atI_nat rfl, rfl, false, (by decide +kernel), ?_⟩
      exact other _ s2 rfl
    | give wd e t =>
      obtain ⟨a, u, r', e1, ha, _⟩ := hR'
      cases e1
      refine ⟨_, rfl, a, _, 0, _, rfl, rfl, SqT.of ha, atI_nat rfl, (by show 2 ≤ sizeLine; decide), fun b hb => ?_⟩
      have s2 := same_new hb (.tup [.str "go", .str "call"])
      refine ⟨b, _, rfl, .inr (SqT.of upd_same), rfl, rfl, false, (by cases wd <;> decide +kernel), ?_⟩
      refine ⟨_, rfl, a, _, 0, _, rfl, rfl, SqT.of (s2 _ _ ha), atI_nat rfl, rfl, false, (by cases wd <;> decide +kernel), ?_⟩
      exact other _ s2 rfl
    | go wd x g es t =>
      obtain ⟨a, pp, ws, r', e1, ha, hpp, ts, _⟩ := hR'
      cases e1
      refine ⟨_, rfl, a, _, 0, _, rfl, rfl, SqT.of ha, atI_nat rfl, (by show 2 ≤ sizeLine; decide), fun b hb => ?_⟩
      have s2 := same_new hb (.tup [.str "go", .str "call"])
      refine ⟨b, _, rfl, .inr (SqT.of upd_same), rfl, rfl, true, (by cases wd <;> decide +kernel), ?_⟩
      have hl2 := s2 _ _ hl1
      refine ⟨_, rfl, .inl ⟨rfl, _, SqL.of hl2⟩, _, rfl, l, _, _, rfl, rfl, hl2, by omega, ?_⟩
      have htl2 : RsIn _ t (xs.drop (i + 1)) := htl.same s2
      have st : StAt _ (g, es.length) (.ref a) := ⟨a, _, _, pp, ws, rfl, s2 _ _ ha, s2 _ _ hpp, ts.len⟩
      have s3 : Same H (upd (upd H1 b (.tup [.str "go", .str "call"])) l (.lst (ss ++ [.ref a]))) := fun x o z => by rw [upd_ne (ne_of_none z hl)]; exact s2 _ _ (s1 _ _ z)
      refine ⟨t, done ++ [(g, es.length)], ss ++ [.ref a], _, rfl, ?_, Rs.ok_tl ok', ?_, ?_, upd_same, ((hst.same s2).upd_lst hl2).app (.one (st.upd_lst hl2)), s3⟩
      · exact RsIn.upd_lst hl2 htl2
      · rw [List.append_assoc]; exact hd'
      · rw [List.length_append, List.length_singleton]
        have : (Rs.go wd x g es t).tl.count = t.count := rfl
        omega
    | iff e A' B t =>
      obtain ⟨a, u, pA, xA, pB, xB, r', e1, ha, te, hpA, hA, hpB, hB, _⟩ := hR'
      cases e1
      have hn : 1 ≤ n := ok'.1
      refine ⟨_, rfl, a, _, 0, _, rfl, rfl, SqT.of ha, atI_nat rfl, (by show 2 ≤ sizeLine; decide), fun b hb => ?_⟩
      have s2 := same_new hb (.tup [.str "go", .str "call"])
      refine ⟨b, _, rfl, .inr (SqT.of upd_same), rfl, rfl, false, (by decide +kernel), ?_⟩
      refine ⟨_, rfl, a, _, 0, _, rfl, rfl, SqT.of (s2 _ _ ha), atI_nat rfl, rfl, true, (by decide +kernel), ?_⟩
      have hl2 := s2 _ _ hl1
      generalize upd H1 b (.tup [.str "go", .str "call"]) = H2 at s2 hl2
      refine ⟨_, rfl, .inl ⟨rfl, _, SqL.of hl2⟩, ?_⟩
      have ec : (Rs.iff e A' B t).count = 1 + A'.count + B.count + t.count := rfl
      have lA := hA.len
      have lB := hB.len
      have goOn : ∀ (pq : Addr) (H3 : Hp), Same H2 H3 → H3 pq = some (.tup (xA ++ xB)) → spB [.ref pq] H3 (fun v' H4 => ∃ (l' b' : Addr) (xs' zs : List V), V.ref l = .ref l' ∧ [v'] = [.ref b'] ∧ H4 l' = some (.lst xs') ∧ H4 b' = some (.lst zs) ∧ xs'.length + zs.length ≤ sizeLine ∧
          (∃ (rs' : Rs) (done : List (Str × Nat)) (ss : List V) (y : Option V), [some (V.ref p), some (V.ref l), some (V.ref a)] = [some (.ref p), some (.ref l), y] ∧ RsIn (upd H4 l' (.lst (xs' ++ zs))) rs' (xs.drop (i + 1)) ∧ Rs.ok n rs' ∧ done ++ rs'.starts = rs.starts ∧ done.length + rs'.count ≤ rs.count ∧ (upd H4 l' (.lst (xs' ++ zs))) l = some (.lst ss) ∧ StsAt (upd H4 l' (.lst (xs' ++ zs))) done ss ∧ Same H (upd H4 l' (.lst (xs' ++ zs))))) E0 := by
        intro pq H3 s3 hpq
        rw [eB hn]
        refine ⟨pq, _, A'.app B, rfl, hpq, RsIn.app ((hB.same s2).same s3) ((hA.same s2).same s3), Rs.app_ok ok'.2.2.2.1 ok'.2.2.1, by rw [Rs.app_count]; omega, fun l4 ss4 H4 s4 nl4 hl4 hs4 => ?_⟩
        have hl4' := s4 _ _ (s3 _ _ hl2)
        have le4 := Rs.starts_le (A'.app B)
        rw [Rs.app_count] at le4
        rw [Rs.app_starts] at hs4 le4
        rw [List.length_append] at le4
        have hle : ss4.length = (A'.starts ++ B.starts).length := hs4.1
        rw [List.length_append] at hle
        refine ⟨l, l4, ss, ss4, rfl, rfl, hl4', hl4, by omega, ?_⟩
        have s34 := s2.trans (s3.trans s4)
        refine ⟨t, done ++ (A'.starts ++ B.starts), ss ++ ss4, _, rfl, RsIn.upd_lst hl4' (htl.same s34), Rs.ok_tl ok', ?_, ?_, upd_same, ((hst.same s34).upd_lst hl4').app (hs4.upd_lst hl4'), ?_⟩
        · rw [List.append_assoc]; exact hd'
        · rw [List.length_append, List.length_append]
          have : (Rs.iff e A' B t).tl.count = t.count := rfl
          omega
        · intro x o z
          rw [upd_ne (ne_of_none z hl)]
          exact s34 _ _ (s1 _ _ z)
      refine ⟨_, rfl, a, _, 2, _, rfl, rfl, SqT.of (s2 _ _ ha), atI_nat (j := 2) rfl, _, rfl, a, _, 3, _, rfl, rfl, SqT.of (s2 _ _ ha), atI_nat (j := 3) rfl, ?_⟩
      refine ⟨pA, pB, xA, xB, rfl, rfl, SqT.of (s2 _ _ hpA), SqT.of (s2 _ _ hpB), by omega, fun z => ?_, fun _ z => ?_, fun _ _ pq hpq => ?_⟩
      · exact goOn pB H2 (Same.refl H2) (by rw [z]; exact s2 _ _ hpB)
      · exact goOn pA H2 (Same.refl H2) (by rw [z, List.append_nil]; exact s2 _ _ hpA)
      · exact goOn pq _ (same_new hpq _) upd_same
  · rintro σ H1 ⟨rs', done, ss, y, rfl, hR', ok', hd', hc', hl1, hst, s1⟩
    rw [List.drop_length] at hR'
    have z : rs' = .nil := by
      cases rs' with
      | nil => rfl
      | put _ _ _ => obtain ⟨_, _, _, e, _⟩ := hR'; cases e
      | go _ _ _ _ _ => obtain ⟨_, _, _, _, e, _⟩ := hR'; cases e
      | wait _ _ _ _ => obtain ⟨_, _, _, e, _⟩ := hR'; cases e
      | iff _ _ _ _ => obtain ⟨_, _, _, _, _, _, _, e, _⟩ := hR'; cases e
      | give _ _ _ => obtain ⟨_, _, _, e, _⟩ := hR'; cases e
    subst z
    have e : done = rs.starts := by rw [← hd']; exact (List.append_nil done).symm
    refine ⟨_, rfl, q l ss H1 s1 hl hl1 (e ▸ hst)⟩
end
end SH

set_option Elab.async false
set_option linter.all false
set_option maxRecDepth 100000
namespace SH
open PySem L2
def spChkStarts : Sp := fun vs H Q _ => ∃ (l : Addr) (us : List V) (Ws : List Wk), vs = [.ref l] ∧ H l = some (.lst us) ∧ WksIn H Ws us ∧ WksOk Ws ∧ ∀ H', Same H H' → Q .non H'
def spBookInit (C : Addr) : Sp := fun vs H Q _ => ∃ (x dx l : Addr) (us : List V) (Ws : List Wk), vs = [.ref x, .ref l] ∧ H x = some (.ins C dx []) ∧ H l = some (.lst us) ∧ WksIn H Ws us ∧ WksOk Ws ∧
  ∀ (p : Addr) (H' : Hp), (∀ b o, H b = some o → b ≠ x → H' b = some o) → H p = none → H' p = some (.tup us) → H' x = some (.ins C dx [("works", .ref p)]) → Q .non H'
/-- what the module says of Book -/
structure BkT (K : PySem.W.Frag) (mg : Str → Option Value) (C : Addr) : Prop where
  cl : Cls K C
  nW : PySem.W.findIn K (.ref C) "works" = some none
  mgC : mg "Book" = some (.ref C)
/-- a book of these works -/
def BkIn (H : Hp) (C x : Addr) (Ws : List Wk) : Prop := ∃ (dx p : Addr) (us : List V), H x = some (.ins C dx [("works", .ref p)]) ∧ H p = some (.tup us) ∧ WksIn H Ws us
theorem BkIn.same {H H' : Hp} {C x : Addr} {Ws : List Wk} (h : Same H H') : BkIn H C x Ws → BkIn H' C x Ws
  | ⟨dx, p, us, k1, k2, q⟩ => ⟨dx, p, us, h _ _ k1, h _ _ k2, q.same h⟩
/-- the dict of how many names each work is handed -/
def HandAt (H : Hp) (D : Addr) (Ws : List Wk) : Prop := ∃ kvs : List (Key × V), H D = some (.dK kvs) ∧ ∀ (i : Nat) (W : Wk), Ws[i]? = some W → valV kvs (Sum.inr W.name) = some (.int (W.names.length : Nat))
theorem HandAt.same {H H' : Hp} {D : Addr} {Ws : List Wk} (h : Same H H') : HandAt H D Ws → HandAt H' D Ws
  | ⟨kvs, a, b⟩ => ⟨kvs, h _ _ a, b⟩
def spHanded : Sp := fun vs H Q _ => ∃ (l : Addr) (us : List V) (Ws : List Wk), vs = [.ref l] ∧ H l = some (.lst us) ∧ WksIn H Ws us ∧ WksOk Ws ∧ ∀ D H', Same H H' → H D = none → HandAt H' D Ws → Q (.ref D) H'
def spChkStart : Sp := fun vs H Q _ => ∃ (u : V) (D : Addr) (Ws : List Wk) (st : Str × Nat), vs = [u, .ref D] ∧ HandAt H D Ws ∧ StAt H st u ∧ (∃ W' ∈ Ws, W'.name = st.1 ∧ W'.names.length = st.2) ∧ Q .non H
section
variable {P : Program} {w : World} {K : PySem.W.Frag} {mg : Str → Option Value} {base : Heap}
theorem ok_handed {f : Addr} {fd : FuncData} (F : Fun K "handed_counts" "handed_counts" sHanded f fd) (T : Bi mg) : FnOk P w K mg base CX0 1 f fd ["works"] spHanded := by
  refine F.ok scHanded (fun vs H Q E h => ?_) (fun cdv A outer s H vs Q E hr h => ?_)
  · obtain ⟨l, us, Ws, rfl, _⟩ := h
    rfl
  obtain ⟨l, us, Ws, rfl, hl, hW, ok, q⟩ := h
  have h12 := ok.few
  refine ⟨_, (pss_one (ps_ret (pe_dc (own := [("work", 1)]) (g := gName 1) (tt := tYes) (by rfl) scHanded.nd (pi_list (pv 0)) (blkOk_by (own := [("work", 1)]) (N := ["works", "work"]) (sc := defScope sHanded) (by decide +kernel)) (fun _ _ _ _ _ => pg_name (i := 1) scHanded.nd rfl (Or.inl rfl)) (fun _ _ _ _ _ => pts_nil) (fun _ _ _ _ _ => (pe_ix (ix_tupK K) (pv 1) pe_int (fun _ _ => rfl))) (fun _ _ _ _ _ => (pe_callB (call_len_seqK K) (by rfl) T.len (by decide +kernel) (pa_cons (pe_ix (ix_tupK K) (pv 1) pe_int (fun _ _ => rfl)) pa_nil)))))), ?_⟩
  have hs : sizeLine = 16777216 := by decide
  refine ⟨_, rfl, l, rfl, ⟨_, SqL.of hl⟩, ?_⟩
  intro D hD
  refine dc_list (K := K) (a := l) (xs := us) (fun j H' => ∃ kvs : List (Key × V), H' D = some (.dK kvs) ∧ kvs.length ≤ j ∧ (∀ (i : Nat) (W : Wk), i < j → Ws[i]? = some W → valV kvs (Sum.inr W.name) = some (.int (W.names.length : Nat))) ∧ Same H H') ⟨[], upd_same, Nat.le_refl _, fun i W hi _ => absurd hi (Nat.not_lt_zero _), same_new hD _⟩ (fun j H' _ ⟨_, _, _, _, s'⟩ => SqL.of (s' _ _ hl)) ?_ ?_
  · rintro j v H2 hv ⟨kvs, hD2, hk, hval, s2⟩
    obtain ⟨W, hWi, hin⟩ := hW.2 j v hv
    have hj : j < Ws.length := (List.getElem?_eq_some_iff.mp hWi).1
    obtain ⟨a, pn, pr, xs, rfl, ha, hpn, _⟩ := hin.same s2
    refine ⟨rfl, ?_⟩
    refine ⟨_, rfl, a, _, 1, _, rfl, rfl, SqT.of ha, atI_nat (j := 1) rfl, _, rfl, a, _, 2, _, rfl, rfl, SqT.of ha, atI_nat (j := 2) rfl, pn, _, rfl, .inr (SqT.of hpn), kvs, Sum.inr W.name, rfl, hD2, by omega, ?_⟩
    refine ⟨_, upd_same, Nat.le_trans (DSub.putK_len _ _ _) (by omega), fun i W' hi hWi' => ?_, ?_⟩
    · rw [valV_put]
      by_cases e : W'.name = W.name
      · have e1 : (Ws.map Wk.name)[i]? = some W'.name := by rw [List.getElem?_map, hWi']; rfl
        have e2 : (Ws.map Wk.name)[j]? = some W.name := by rw [List.getElem?_map, hWi]; rfl
        have ij : i = j := nd_ix ok.nd (e ▸ e1) e2
        subst ij
        have : W' = W := Option.some.inj (hWi'.symm.trans hWi)
        subst this
        rw [if_pos rfl, List.length_map]
      · rw [if_neg (fun z => e (Sum.inr.inj z))]
        have hne : i ≠ j := fun z => by
          subst z
          exact e (congrArg Wk.name (Option.some.inj (hWi'.symm.trans hWi)))
        exact hval i W' (by omega) hWi'
    · intro b o z
      rw [upd_ne (ne_of_none z hD)]
      exact s2 _ _ z
  · rintro H2 ⟨kvs, hD2, hk, hval, s2⟩
    exact q D H2 s2 hD ⟨kvs, hD2, fun i W e => hval i W (by rw [hW.1]; exact (List.getElem?_eq_some_iff.mp e).1) e⟩
theorem ok_chkStart {f : Addr} {fd : FuncData} (F : Fun K "check_start" "check_start" sChkStart f fd) (T : Bi mg) : FnOk P w K mg base CX0 1 f fd ["start", "handed"] spChkStart := by
  refine F.ok scChkStart (fun vs H Q E h => ?_) (fun cdv A outer s H vs Q E hr h => ?_)
  · obtain ⟨u, D, Ws, st, rfl, _⟩ := h
    rfl
  obtain ⟨u, D, Ws, st, rfl, ⟨kvs, hD5, hval⟩, ⟨b, wd, x, p, ws, rfl, hb, hp, hlen⟩, ⟨W', hW', en, el⟩, q⟩ := h
  refine ⟨_, (pss_cons (ps_if (pt_cmp (pc_dnotin (hu_of hr) (pe_ix ix_tup (pv 0) pe_int (fun _ _ => rfl)) (pv 1)))
      (pss_one ps_never)
      pss_nil)
    (pss_one (ps_if (pt_cmpR op_ne (pe_callB call_len_seq (by rfl) T.len (by decide +kernel) (pa_cons (pe_ix ix_tup (pv 0) pe_int (fun _ _ => rfl)) pa_nil)) (pe_dget (hu_of hr) (pv 1) (pe_ix ix_tup (pv 0) pe_int (fun _ _ => rfl)) (fun _ _ => rfl)) (nomark _))
      (pss_one ps_never)
      pss_nil))), ?_⟩
  obtain ⟨k, hk', ek⟩ := List.mem_iff_getElem.mp hW'
  have hv' := hval k W' (by rw [List.getElem?_eq_getElem hk', ek])
  rw [en, el] at hv'
  have gt : DGet H D (.str st.1) (some (.int (st.2 : Nat))) := by
    have := DGet.k (k := Sum.inr st.1) hD5
    rwa [hv'] at this
  refine ⟨_, rfl, b, _, 2, _, rfl, rfl, SqT.of hb, atI_nat (j := 2) rfl, _, rfl, D, _, rfl, gt, false, rfl, ?_⟩
  refine ⟨_, rfl, b, _, 3, _, rfl, rfl, SqT.of hb, atI_nat (j := 3) rfl, p, _, rfl, .inr (SqT.of hp), ?_⟩
  refine ⟨_, rfl, _, rfl, b, _, 2, _, rfl, rfl, SqT.of hb, atI_nat (j := 2) rfl, D, _, rfl, gt, rfl, _, rfl, ?_⟩
  rw [hlen]
  refine iteNS rfl ?_
  exact q
theorem ok_chkStarts {f c d e : Addr} {fd cd dd ed : FuncData} (F : Fun K "check_starts" "check_starts" sChkStarts f fd) (SI : Fk P w K mg base 4 "starts_in" c cd ["rows"] (spStartsIn 3)) (HC : Fk P w K mg base 1 "handed_counts" d dd ["works"] spHanded) (CH : Fk P w K mg base 1 "check_start" e ed ["start", "handed"] spChkStart) (T : Bi mg) : FnOk P w K mg base CX0 5 f fd ["works"] spChkStarts := by
  refine F.ok scChkStarts (fun vs H Q E h => ?_) (fun cdv A outer s H vs Q E hr h => ?_)
  · obtain ⟨l, us, Ws, rfl, _⟩ := h
    rfl
  obtain ⟨l, us, Ws, rfl, hl, hW, ok, q⟩ := h
  have h12 := ok.few
  refine ⟨_, (pss_cons (ps_set (i := 1) scChkStarts.nd rfl (Or.inl rfl) (pe_call HC.G (hr.mono (by omega)) (by rfl) HC.m HC.k HC.b .nil pass0 (pa_cons (pv 0) pa_nil)))
    (pss_one (ps_for PassesOwn.never rfl (pi_list (pv 0)) (pg_name (i := 2) scChkStarts.nd rfl (.inl rfl))
      (pss_one (ps_for PassesOwn.never rfl (pi_list (pe_call SI.G (hr.mono (by omega)) (by rfl) SI.m SI.k SI.b .nil pass0 (pa_cons (pe_ix ix_tup (pv 2) pe_int (fun _ _ => rfl)) pa_nil))) (pg_name (i := 3) scChkStarts.nd rfl (.inl rfl))
      (pss_one (ps_expr (pe_call CH.G (hr.mono (by omega)) (by rfl) CH.m CH.k CH.b .nil pass0 (pa_cons (pv 3) (pa_cons (pv 1) pa_nil)))))))))), ?_⟩
  refine ⟨_, rfl, l, us, Ws, rfl, hl, hW, ok, fun D H2 s2 hD hH => ?_⟩
  refine ⟨_, rfl, l, rfl, ⟨_, SqL.of (s2 _ _ hl)⟩, ?_⟩
  refine for_list (K := K) (a := l) (xs := us) (fun i σ H' => ∃ y3 y4 : Option V, σ = [some (.ref l), some (.ref D), y3, y4] ∧ Same H2 H') ⟨none, none, rfl, Same.refl _⟩ (fun i σ H' _ ⟨_, _, _, s'⟩ => SqL.of (s' _ _ (s2 _ _ hl))) ?_ ?_
  · rintro i v σ H3 hv ⟨y3, y4, rfl, s3⟩
    obtain ⟨W, hWi, hin⟩ := hW.2 i v hv
    have hWm := List.mem_of_getElem? hWi
    obtain ⟨a, pn, pr, xs, rfl, ha, hpn, hpr, hR⟩ := hin.same (s2.trans s3)
    have wok := ok.each W hWm
    have c40 := wok.count
    refine ⟨_, rfl, a, _, 4, _, rfl, rfl, SqT.of ha, atI_nat (j := 4) rfl, pr, xs, W.rows, rfl, hpr, hR, wok.rows, by omega, fun l4 ss H4 s4 nl4 hl4 hst => ?_⟩
    refine ⟨l4, rfl, ⟨_, SqL.of hl4⟩, ?_⟩
    refine for_list (K := K) (a := l4) (xs := ss) (fun i σ H' => ∃ y4 : Option V, σ = [some (.ref l), some (.ref D), some (.ref a), y4] ∧ H' = H4) ⟨y4, rfl, rfl⟩ (fun i σ H' _ ⟨_, _, e⟩ => by rw [e]; exact SqL.of hl4) ?_ ?_
    · rintro j u σ H5 hu ⟨y4, rfl, rfl⟩
      have hj : j < W.rows.starts.length := by
        rw [← hst.1]
        exact (List.getElem?_eq_some_iff.mp hu).1
      obtain ⟨st, hsj⟩ : ∃ st, W.rows.starts[j]? = some st := ⟨_, List.getElem?_eq_getElem hj⟩
      exact ⟨_, rfl, _, rfl, u, D, Ws, st, rfl, hH.same (s3.trans s4), hst.2 j st u hsj hu, ok.starts W hWm st (List.mem_of_getElem? hsj), _, rfl, rfl⟩
    · rintro σ H5 ⟨y4, rfl, rfl⟩
      exact ⟨_, _, rfl, s3.trans s4⟩
  · rintro σ H3 ⟨y3, y4, rfl, s3⟩
    exact q H3 (s2.trans s3)
theorem ok_bookInit {f c d C : Addr} {fd cd dd : FuncData} (F : Fun K "__init__" "Book.__init__" sBookInit f fd) (B : BkT K mg C) (CK : Fk P w K mg base 25 "check_works" c cd ["thing"] spChkWorks) (CS : Fk P w K mg base 5 "check_starts" d dd ["works"] spChkStarts) (mt : mg "tuple" = none) : FnOk P w K mg base CX0 26 f fd ["self", "works"] (spBookInit C) := by
  refine F.ok scBookInit (fun vs H Q E h => ?_) (fun cdv A outer s H vs Q E hr h => ?_)
  · obtain ⟨x, dx, l, us, Ws, rfl, _⟩ := h
    rfl
  obtain ⟨x, dx, l, us, Ws, rfl, hx, hl, hW, ok, q⟩ := h
  refine ⟨_, (pss_cons (ps_expr (pe_call CK.G (hr.mono (by omega)) (by rfl) CK.m CK.k CK.b .nil pass0 (pa_cons (pv 1) pa_nil)))
    (pss_cons (ps_expr (pe_call CS.G (hr.mono (by omega)) (by rfl) CS.m CS.k CS.b .nil pass0 (pa_cons (pv 1) pa_nil)))
    (pss_one (ps_fld (pv 0) (pe_callTy call_tuple_of (by rfl) mt (by decide +kernel) (pa_cons (pv 1) pa_nil)) rfl)))), ?_⟩
  refine ⟨_, rfl, l, us, Ws, rfl, hl, hW, ok, fun H1 s1 => ?_⟩
  refine ⟨_, rfl, l, us, Ws, rfl, s1 _ _ hl, hW.same s1, ok, fun H2 s2 => ?_⟩
  have s12 := s1.trans s2
  refine ⟨_, rfl, l, us, rfl, .inl ⟨SqL.of (s12 _ _ hl), fun p hp => ?_⟩⟩
  have hx2 : (upd H2 p (.tup us)) x = some (.ins C dx []) := (same_new hp _) _ _ (s12 _ _ hx)
  refine ⟨_, rfl, x, C, dx, _, rfl, hx2, B.cl, B.nW, (by show 0 < 1000; decide), ?_⟩
  have npx : p ≠ x := fun z => by rw [z, s12 _ _ hx] at hp; cases hp
  refine q p _ (fun b o e nb => ?_) (s12.free hp) (by rw [upd_ne npx, upd_same]) upd_same
  rw [upd_ne nb]
  exact (same_new hp _) _ _ (s12 _ _ e)
end
end SH

set_option Elab.async false
set_option linter.all false
set_option maxRecDepth 100000
namespace SH
open PySem L2
/-! ### works as plain data -/
def Ex.dat : Ex → PyData
  | .num i => .tuple [.str "number", .int i]
  | .nam s => .tuple [.str "name", .str s]
  | .op g l r => .tuple [.str g.txt, l.dat, r.dat]
def optDat : Option Ex → PyData
  | none => .none
  | some e => e.dat
def Rs.dat : Rs → List PyData
  | .nil => []
  | .put x e t => .tuple [.str "put", .str x, e.dat] :: t.dat
  | .go w x f es t => .tuple [.str (goW w), .str x, .str f, .tuple (es.map Ex.dat)] :: t.dat
  | .wait x y oe t => .tuple [.str "wait", .str x, .str y, optDat oe] :: t.dat
  | .iff e a b t => .tuple [.str "if", e.dat, .tuple a.dat, .tuple b.dat] :: t.dat
  | .give w e t => .tuple [.str (giveW w), e.dat] :: t.dat
def Wk.dat (W : Wk) : PyData := .tuple [.str "work", .str W.name, .tuple (W.names.map PyData.str), .int W.room, .tuple W.rows.dat]
section
variable {K : PySem.W.Frag} {H : Hp}
theorem dp2 {a b : V} {c d : PyData} (h1 : Dp K H a c) (h2 : Dp K H b d) : DpAll K H [a, b] [c, d] := .cons h1 (.cons h2 .nil)
theorem dp3 {a b e : V} {c d f : PyData} (h1 : Dp K H a c) (h2 : Dp K H b d) (h3 : Dp K H e f) : DpAll K H [a, b, e] [c, d, f] := .cons h1 (dp2 h2 h3)
theorem dp4 {a b e g : V} {c d f i : PyData} (h1 : Dp K H a c) (h2 : Dp K H b d) (h3 : Dp K H e f) (h4 : Dp K H g i) : DpAll K H [a, b, e, g] [c, d, f, i] := .cons h1 (dp3 h2 h3 h4)
theorem Ex.dp : ∀ {e : Ex} {v : V}, TrIn H e v → Dp K H v e.dat
  | .num _, _, ⟨a, e, h⟩ => e ▸ .tup (SqT.of h) (dp2 (.str _) (.int _))
  | .nam _, _, ⟨a, e, h⟩ => e ▸ .tup (SqT.of h) (dp2 (.str _) (.str _))
  | .op _ _ _, _, ⟨a, x, y, e, h, l, r⟩ => e ▸ .tup (SqT.of h) (dp3 (.str _) (Ex.dp l) (Ex.dp r))
theorem exs_dp : ∀ {es : List Ex} {vs : List V}, TrsIn H es vs → DpAll K H vs (es.map Ex.dat)
  | [], _, e => by
    cases (show _ = [] from e)
    exact .nil
  | e :: es, _, ⟨v, r, k, h, t⟩ => k ▸ .cons (Ex.dp h) (exs_dp t)
theorem opt_dp : ∀ {oe : Option Ex} {v : V}, OptIn H oe v → Dp K H v (optDat oe)
  | none, _, e => by
    cases (show _ = V.non from e)
    exact .non
  | some e, _, h => Ex.dp h
theorem Rs.dp : ∀ {r : Rs} {vs : List V}, RsIn H r vs → DpAll K H vs r.dat
  | .nil, _, e => by
    cases (show _ = [] from e)
    exact .nil
  | .put _ _ t, _, ⟨a, v, r, k, h, e, q⟩ => k ▸ .cons (.tup (SqT.of h) (dp3 (.str _) (.str _) (Ex.dp e))) (Rs.dp q)
  | .go _ _ _ _ t, _, ⟨a, p, ws, r, k, h, hp, e, q⟩ => k ▸ .cons (.tup (SqT.of h) (dp4 (.str _) (.str _) (.str _) (.tup (SqT.of hp) (exs_dp e)))) (Rs.dp q)
  | .wait _ _ _ t, _, ⟨a, v, r, k, h, e, q⟩ => k ▸ .cons (.tup (SqT.of h) (dp4 (.str _) (.str _) (.str _) (opt_dp e))) (Rs.dp q)
  | .iff _ _ _ t, _, ⟨a, v, p, xs, p', ys, r, k, h, e, hp, A, hp', B, q⟩ => k ▸ .cons (.tup (SqT.of h) (dp4 (.str _) (Ex.dp e) (.tup (SqT.of hp) (Rs.dp A)) (.tup (SqT.of hp') (Rs.dp B)))) (Rs.dp q)
  | .give _ _ t, _, ⟨a, v, r, k, h, e, q⟩ => k ▸ .cons (.tup (SqT.of h) (dp2 (.str _) (Ex.dp e))) (Rs.dp q)
theorem strs_dp : ∀ (l : List Str), DpAll K H (l.map V.str) (l.map PyData.str)
  | [] => .nil
  | _ :: l => .cons (.str _) (strs_dp l)
theorem Wk.dp {W : Wk} {v : V} : WkIn H W v → Dp K H v W.dat
  | ⟨a, pn, pr, xs, e, h, hn, hp, q⟩ => e ▸ .tup (SqT.of h) (.cons (.str _) (dp4 (.str _) (.tup (SqT.of hn) (strs_dp _)) (.int _) (.tup (SqT.of hp) (Rs.dp q))))
theorem wks_dp : ∀ {Ws : List Wk} {vs : List V}, WksIn H Ws vs → DpAll K H vs (Ws.map Wk.dat)
  | [], [], _ => .nil
  | W :: Ws, v :: vs, h => by
    obtain ⟨W', e, k⟩ := h.2 0 v rfl
    cases e
    refine .cons (Wk.dp k) (wks_dp ⟨by have := h.1; simpa using this, fun i u hu => ?_⟩)
    obtain ⟨W', e, k⟩ := h.2 (i + 1) u (by simpa using hu)
    exact ⟨W', by simpa using e, k⟩
  | [], _ :: _, h => by have := h.1; simp at this
  | _ :: _, [], h => by have := h.1; simp at this
end
/-! ### it can lie anywhere -/
theorem fit_name {s : Str} (h : NmOk s) : PySem.PyData.canLay0 (.str s) = true := by
  show PySem.PyData.strOk s = true
  unfold PySem.PyData.strOk
  rw [Array.all_eq_true]
  intro i hi
  have q := h.1.2.2 s.cps[i] (by show _ ∈ s.cps.toList; exact Array.mem_toList_iff.mpr (Array.getElem_mem hi))
  exact decide_eq_true (by omega)
theorem lay_list (xs : List PyData) : PySem.PyData.canLayAll0 xs = xs.all PySem.PyData.canLay0 := by
  induction xs with
  | nil => rfl
  | cons x xs ih =>
    show (PySem.PyData.canLay0 x && PySem.PyData.canLayAll0 xs) = _
    rw [ih, List.all_cons]
theorem deep_list {n : Nat} : ∀ {xs : List PyData}, (∀ x ∈ xs, x.depth ≤ n) → PySem.PyData.depthAll xs ≤ n
  | [], _ => Nat.zero_le _
  | x :: xs, h => by
    show max x.depth (PySem.PyData.depthAll xs) ≤ n
    have h1 := h x (List.mem_cons_self ..)
    have h2 := deep_list fun y hy => h y (List.mem_cons_of_mem _ hy)
    omega
/-- can lie, and no deeper than n -/
def Fit (n : Nat) (d : PyData) : Prop := PySem.PyData.canLay0 d = true ∧ d.depth ≤ n
theorem Fit.up {n m : Nat} {d : PyData} (h : Fit n d) (k : n ≤ m) : Fit m d := ⟨h.1, Nat.le_trans h.2 k⟩
theorem fit_tup {n : Nat} {ds : List PyData} (h : ∀ d ∈ ds, Fit n d) : Fit (n + 1) (.tuple ds) := by
  refine ⟨?_, ?_⟩
  · show PySem.PyData.canLayAll0 ds = true
    rw [lay_list, List.all_eq_true]
    exact fun d hd => (h d hd).1
  · show PySem.PyData.depthAll ds + 1 ≤ n + 1
    have := deep_list (n := n) fun d hd => (h d hd).2
    omega
theorem fit_lst {n : Nat} {ds : List PyData} (h : ∀ d ∈ ds, Fit n d) : Fit (n + 1) (.list ds) := fit_tup h
theorem fit_str {n : Nat} {s : Str} (h : NmOk s) : Fit n (.str s) := ⟨fit_name h, Nat.zero_le _⟩
theorem fit_word {n : Nat} {s : Str} (h : PySem.PyData.strOk s = true) : Fit n (.str s) := ⟨h, Nat.zero_le _⟩
theorem fit_int {n : Nat} {i : Int} : Fit n (.int i) := ⟨rfl, Nat.zero_le _⟩
theorem all2 {p : PyData → Prop} {a b : PyData} (h1 : p a) (h2 : p b) : ∀ d ∈ [a, b], p d := fun d hd => by
  rcases List.mem_cons.mp hd with rfl | hd
  · exact h1
  · rw [List.mem_singleton.mp hd]
    exact h2
theorem all3 {p : PyData → Prop} {a b c : PyData} (h1 : p a) (h2 : p b) (h3 : p c) : ∀ d ∈ [a, b, c], p d := fun d hd => by
  rcases List.mem_cons.mp hd with rfl | hd
  · exact h1
  · exact all2 h2 h3 d hd
theorem all4 {p : PyData → Prop} {a b c e : PyData} (h1 : p a) (h2 : p b) (h3 : p c) (h4 : p e) : ∀ d ∈ [a, b, c, e], p d := fun d hd => by
  rcases List.mem_cons.mp hd with rfl | hd
  · exact h1
  · exact all3 h2 h3 h4 d hd
theorem Ex.fit : ∀ {n : Nat} {e : Ex}, Ex.fine n e → Fit n e.dat
  | 0, _, h => h.elim
  | n + 1, .num i, _ => fit_tup (all2 (fit_word (by decide +kernel)) fit_int)
  | n + 1, .nam s, h => fit_tup (all2 (fit_word (by decide +kernel)) (fit_str h))
  | n + 1, .op g l r, h => fit_tup (all3 (fit_word (by cases g <;> decide +kernel)) (Ex.fit h.1) (Ex.fit h.2))
theorem Rs.fit : ∀ (r : Rs) {n : Nat}, Rs.ok n r → ∀ d ∈ r.dat, Fit (8 + 2 * n) d
  | .nil, _, _ => fun d hd => by cases hd
  | .put x e t, n, h => fun d hd => by
    rcases List.mem_cons.mp hd with rfl | hd
    · exact (fit_tup (n := 6) (all3 (fit_word (by decide +kernel)) (fit_str h.1) (Ex.fit h.2.1))).up (by omega)
    · exact Rs.fit t h.2.2 d hd
  | .go w x f es t, n, h => fun d hd => by
    rcases List.mem_cons.mp hd with rfl | hd
    · exact (fit_tup (n := 7) (all4 (fit_word (by cases w <;> decide +kernel)) (fit_str h.1) (fit_str h.2.1) (fit_tup (n := 6) fun d hd => by
        obtain ⟨e, he, rfl⟩ := List.mem_map.mp hd
        exact Ex.fit (h.2.2.2.1 e he)))).up (by omega)
    · exact Rs.fit t h.2.2.2.2 d hd
  | .wait x y oe t, n, h => fun d hd => by
    rcases List.mem_cons.mp hd with rfl | hd
    · refine (fit_tup (n := 6) (all4 (fit_word (by decide +kernel)) (fit_str h.1) (fit_str h.2.1) ?_)).up (by omega)
      cases oe with
      | none => exact ⟨rfl, Nat.zero_le _⟩
      | some e => exact Ex.fit (h.2.2.1 e rfl)
    · exact Rs.fit t h.2.2.2 d hd
  | .iff e a b t, n, h => fun d hd => by
    rcases List.mem_cons.mp hd with rfl | hd
    · have hn := h.1
      exact (fit_tup (n := 9 + 2 * (n - 1)) (all4 (fit_word (by decide +kernel)) ((Ex.fit h.2.1).up (by omega)) (fit_tup (n := 8 + 2 * (n - 1)) (Rs.fit a h.2.2.1) |>.up (by omega)) (fit_tup (n := 8 + 2 * (n - 1)) (Rs.fit b h.2.2.2.1) |>.up (by omega)))).up (by omega)
    · exact Rs.fit t h.2.2.2.2 d hd
  | .give w e t, n, h => fun d hd => by
    rcases List.mem_cons.mp hd with rfl | hd
    · exact (fit_tup (n := 6) (all2 (fit_word (by cases w <;> decide +kernel)) (Ex.fit h.1))).up (by omega)
    · exact Rs.fit t h.2 d hd
theorem Wk.fit {W : Wk} (h : W.ok) : Fit 16 W.dat := fit_tup (n := 15) fun d hd => by
  rcases List.mem_cons.mp hd with rfl | hd
  · exact fit_word (by decide +kernel)
  · refine all4 (fit_str h.name) ((fit_tup (n := 1) fun d hd => ?_).up (by omega)) fit_int ((fit_tup (n := 14) (Rs.fit W.rows h.rows)).up (by omega)) d hd
    obtain ⟨s, hs, rfl⟩ := List.mem_map.mp hd
    exact fit_str (h.names s hs)
theorem shaped_of {n : Nat} {d : PyData} (h : Fit n d) (k : n ≤ 64) : SeqAt.shaped d = true := by
  unfold SeqAt.shaped
  rw [h.1, decide_eq_true (Nat.le_trans h.2 k)]
  rfl
/-- are these works equal to those? -/
def sameW (Ws Vs : List Wk) : Bool := PyData.eqv (.tuple (Ws.map Wk.dat)) (.tuple (Vs.map Wk.dat))
theorem sameW_list (Ws Vs : List Wk) : PyData.eqv (.list (Ws.map Wk.dat)) (.list (Vs.map Wk.dat)) = sameW Ws Vs := rfl
theorem wks_shaped {Ws : List Wk} (h : ∀ W ∈ Ws, W.ok) : SeqAt.shaped (.tuple (Ws.map Wk.dat)) = true ∧ SeqAt.shaped (.list (Ws.map Wk.dat)) = true := by
  have : ∀ d ∈ Ws.map Wk.dat, Fit 16 d := fun d hd => by
    obtain ⟨W, hW, rfl⟩ := List.mem_map.mp hd
    exact Wk.fit (h W hW)
  exact ⟨shaped_of (fit_tup this) (by decide), shaped_of (fit_lst this) (by decide)⟩
end SH

set_option Elab.async false
set_option linter.all false
set_option maxRecDepth 100000
namespace SH
open PySem L2
abbrev sBookNames : Stmt := inClass (topS 58) 1
abbrev sBookLen : Stmt := inClass (topS 58) 3
abbrev sBookEq : Stmt := inClass (topS 58) 4
theorem scBookNames : FnScope ["self", "work"] ["self"] (defScope sBookNames) := ⟨rfl, rfl, rfl, by decide +kernel, rfl, by decide +kernel, by decide +kernel⟩
theorem scBookLen : FnScope ["self"] ["self"] (defScope sBookLen) := ⟨rfl, rfl, rfl, by decide +kernel, rfl, by decide +kernel, by decide +kernel⟩
theorem scBookEq : FnScope ["self", "other"] ["self", "other"] (defScope sBookEq) := ⟨rfl, rfl, rfl, by decide +kernel, rfl, by decide +kernel, by decide +kernel⟩
def spBookNames (C : Addr) : Sp := fun vs H Q _ => ∃ (x : Addr) (Ws : List Wk), vs = [.ref x] ∧ BkIn H C x Ws ∧ Ws.length ≤ 100 ∧ ∀ D H', Same H H' → H D = none → H' D = some (.lst ((Ws.map Wk.name).map V.str)) → Q (.ref D) H'
def spBookLen (C : Addr) : Sp := fun vs H Q _ => ∃ (x : Addr) (Ws : List Wk), vs = [.ref x] ∧ BkIn H C x Ws ∧ Q (.int (Ws.length : Nat)) H
/-- what a class of one's own is taken for -/
structure BkE (K : PySem.W.Frag) (C : Addr) : Prop where
  ca : PySem.W.findIn K (.ref C) "__class__" = some (some (.builtin "object.__class__"))
  cg : PySem.W.specialIn K (.builtin "object.__class__") "__get__" = some (some (.builtin "getset_descriptor.__get__"))
  ct : PySem.W.takesIn K (.builtin "object.__class__") = some true
  ob : PySem.W.mroIn K C (.type "object") = some true
  li : PySem.W.kitOne K (.type "list") (.ref C) = some false
  tu : PySem.W.kitOne K (.type "tuple") (.ref C) = some false
  it : PySem.W.kitOne K (.type "int") (.ref C) = some false
  bo : PySem.W.kitOne K (.type "bool") (.ref C) = some false
  st : PySem.W.kitOne K (.type "str") (.ref C) = some false
  no : PySem.W.kitOne K (.type "NoneType") (.ref C) = some false
theorem BkE.alien {K : PySem.W.Frag} {C : Addr} (T : BkE K C) {H : Hp} {z : V} (h : Alien H z) : ∃ t, TyX K H z t ∧ PySem.W.kitOne K t (.ref C) = some false := by
  cases h with
  | non => exact ⟨_, .base .non, T.no⟩
  | bl b => exact ⟨_, .base (.bl b), T.bo⟩
  | int i => exact ⟨_, .base (.int i), T.it⟩
  | str z => exact ⟨_, .base (.str z), T.st⟩
  | lst e => exact ⟨_, .base (.lst e), T.li⟩
  | tup e => exact ⟨_, .base (.tup e), T.tu⟩
def spBookEq (C : Addr) : Sp := fun vs H Q _ => ∃ (x : Addr) (Ws : List Wk) (y : V), vs = [.ref x, y] ∧ BkIn H C x Ws ∧ (∀ W ∈ Ws, W.ok) ∧
  ((∃ (z : Addr) (Vs : List Wk), y = .ref z ∧ BkIn H C z Vs ∧ (∀ W ∈ Vs, W.ok) ∧ Q (.bl (sameW Ws Vs)) H) ∨ (Alien H y ∧ Q (.bl false) H))
section
variable {P : Program} {w : World} {K : PySem.W.Frag} {mg : Str → Option Value} {base : Heap}
theorem ok_bookNames {f C : Addr} {fd : FuncData} (F : Fun K "names" "Book.names" sBookNames f fd) (B : BkT K mg C) : FnOk P w K mg base CX0 1 f fd ["self"] (spBookNames C) := by
  refine F.ok scBookNames (fun vs H Q E h => ?_) (fun cdv A outer s H vs Q E hr h => ?_)
  · obtain ⟨x, Ws, rfl, _⟩ := h
    rfl
  obtain ⟨x, Ws, rfl, ⟨dx, p, us, hx, hp, hW⟩, h10, q⟩ := h
  refine ⟨_, (pss_one (ps_ret (pe_lc (own := [("work", 1)]) (g := gName 1) (tt := tYes) (by rfl) scBookNames.nd (pi_tup (pe_fld (pv 0) rfl)) (blkOk_by (own := [("work", 1)]) (N := ["self", "work"]) (sc := defScope sBookNames) (by decide +kernel)) (fun _ _ _ _ _ => pg_name (i := 1) scBookNames.nd rfl (Or.inl rfl)) (fun _ _ _ _ _ => pts_nil) (fun _ _ _ _ _ => pe_ix (ix_tupK K) (pv 1) pe_int (fun _ _ => rfl))))), ?_⟩
  have hs : sizeLine = 16777216 := by decide
  refine ⟨_, rfl, x, C, dx, _, _, rfl, hx, B.cl, B.nW, rfl, p, rfl, ⟨_, SqT.of hp⟩, ?_⟩
  intro D hD
  refine lc_tup (K := K) (a := p) (xs := us) (fun j H' => H' D = some (.lst (((Ws.take j).map Wk.name).map V.str)) ∧ Same H H') ⟨upd_same, same_new hD _⟩ (fun j H' _ h => SqT.of (h.2 _ _ hp)) ?_ ?_
  · rintro j v H1 hv ⟨hD1, s1⟩
    obtain ⟨W, hWi, hin⟩ := hW.2 j v hv
    have hj : j < Ws.length := (List.getElem?_eq_some_iff.mp hWi).1
    obtain ⟨a, pn, pr, xs, rfl, ha, _⟩ := hin.same s1
    refine ⟨rfl, ?_⟩
    refine ⟨_, rfl, a, _, 1, _, rfl, rfl, SqT.of ha, rfl, ?_⟩
    refine ⟨_, hD1, by rw [List.length_map, List.length_map, List.length_take]; omega, ?_, ?_⟩
    · rw [upd_same, List.take_add_one, hWi, List.map_append, List.map_append]
      rfl
    · intro y o z
      rw [upd_ne (ne_of_none z hD)]
      exact s1 _ _ z
  · rintro H1 ⟨hD1, s1⟩
    rw [hW.1, List.take_length] at hD1
    exact q D H1 s1 hD hD1
theorem ok_bookLen {f C : Addr} {fd : FuncData} (F : Fun K "__len__" "Book.__len__" sBookLen f fd) (B : BkT K mg C) (T : Bi mg) : FnOk P w K mg base CX0 1 f fd ["self"] (spBookLen C) := by
  refine F.ok scBookLen (fun vs H Q E h => ?_) (fun cdv A outer s H vs Q E hr h => ?_)
  · obtain ⟨x, Ws, rfl, _⟩ := h
    rfl
  obtain ⟨x, Ws, rfl, ⟨dx, p, us, hx, hp, hW⟩, q⟩ := h
  refine ⟨_, (pss_one (ps_ret (pe_callB call_len_seq (by rfl) T.len (by decide +kernel) (pa_cons (pe_fld (pv 0) rfl) pa_nil)))), ?_⟩
  refine ⟨_, rfl, x, C, dx, _, _, rfl, hx, B.cl, B.nW, rfl, p, us, rfl, .inr (SqT.of hp), ?_⟩
  rw [hW.1]
  exact q
theorem ok_bookEq {f C : Addr} {fd : FuncData} (F : Fun K "__eq__" "Book.__eq__" sBookEq f fd) (B : BkT K mg C) (E : BkE K C) (T : Bi mg) : FnOk P w K mg base CX0 1 f fd ["self", "other"] (spBookEq C) := by
  refine F.ok scBookEq (fun vs H Q E h => ?_) (fun cdv A outer s H vs Q E' hr h => ?_)
  · obtain ⟨x, Ws, y, rfl, _⟩ := h
    rfl
  obtain ⟨x, Ws, y, rfl, ⟨dx, p, us, hx, hp, hW⟩, ok, h⟩ := h
  refine ⟨_, (pss_one (ps_ret (pe_and (pe_callB call_isi (by rfl) T.isinstance (by decide +kernel) (pa_cons (pv 1) (pa_cons (pe_glob (v := .ref C) rfl B.mgC rfl) pa_nil))) (pe_one (pe_cmpR (op_eqD hr.units) (pe_fld (pv 0) rfl) (pe_fld (pv 1) rfl) (nomark _)))))), ?_⟩
  rcases h with ⟨z, Vs, rfl, ⟨dz, p', us', hz, hp', hV⟩, ok', q⟩ | ⟨al, q⟩
  · refine ⟨_, rfl, .ref z, .ref C, .ref C, .ref C, true, rfl, .own C, .base (.ins hz B.cl E.ca E.cg E.ct E.ob), by unfold PySem.W.kitOne; rw [if_pos (by simp)], ?_⟩
    exact ⟨true, rfl, _, rfl, x, C, dx, _, _, rfl, hx, B.cl, B.nW, rfl, _, rfl, z, C, dz, _, _, rfl, hz, B.cl, B.nW, rfl, _, _, .tup (SqT.of hp) (wks_dp hW), .tup (SqT.of hp') (wks_dp hV), (wks_shaped ok).1, (wks_shaped ok').1, q⟩
  · obtain ⟨t, ty, no⟩ := E.alien al
    refine ⟨_, rfl, y, .ref C, t, .ref C, false, rfl, .own C, ty, no, ?_⟩
    exact ⟨false, rfl, q⟩
end
section
variable {X : Cx}
/-- len(x) by an own __len__ -/
def rLenOwn (C : Addr) (sp : Sp) : List V → Hp → VK → Prop := fun xs H Q => ∃ (a dx : Addr) (fs : List (Str × V)), xs = [V.ref a] ∧ H a = some (.ins C dx fs) ∧ sp [.ref a] H (fun v H' => ∃ n : Nat, v = .int (n : Int) ∧ n < 1000000 ∧ Q v H') E0
theorem call_lenOwn {C g : Addr} {gd : FuncData} {n : Nat} {sp : Sp} (hs : PySem.W.findIn X.K (.ref C) "__len__" = some (some (.ref g))) (hf : PySem.W.isFn X.K (.ref g) = true) (F : FnOk X.prog X.w X.K X.mg X.base CX0 n g gd ["self"] sp) (hb : Binds X.K gd ["self"] []) (hr : Room (n + 1) X.A) : CallR X (.builtin "len") (rLenOwn C sp) := by
  intro pins s σ H xs us Q I r h
  obtain ⟨a, dx, fs, rfl, ha, q⟩ := h
  obtain ⟨u, rfl, ru⟩ := vals1 r
  cases ru
  obtain ⟨mA, om, _⟩ := ins_get I.hok ha
  obtain ⟨od, J, _⟩ := om.look
  obtain ⟨m, hF⟩ := I.fr
  have rv : Vals [V.ref a] [Value.ref a] := .cons rfl .nil
  refine PySem.W.len_K hF I.ok.mod.kin J hs hf (wpAny_call (codeAny_mono (F.run X.A.in1 X.stack s H ⟨[.ref a], []⟩ [.ref a] [.ref a] _ E0 hr.in1 I.env0.in1 (hb s [.ref a] I.kIn rfl) rv q) fun r z hq => ?_))
  cases r with
  | error e => exact hq.elim
  | ok fl =>
    cases fl with
    | ret v =>
      obtain ⟨y, H', J2, ry, t, ey, lt, fin⟩ := I.after hq
      subst ey
      obtain ⟨tk, rfl⟩ := (show ∃ tk, v = Value.int t tk from ry)
      exact ⟨⟨by omega, by omega⟩, .int t, H', J2.tok _, ⟨_, rfl⟩, fin⟩
    | _ => exact False.elim hq
end
end SH

set_option Elab.async false
set_option linter.all false
set_option maxRecDepth 100000
/-! plain data of tuples: how deep, how long their text. -/
namespace SH
open PySem L2
mutual
def onlyT : PyData → Bool
  | .none => true
  | .bool _ => true
  | .int _ => true
  | .str _ => true
  | .list _ => false
  | .tuple ds => onlyTs ds
  | .dict _ => false
def onlyTs : List PyData → Bool
  | [] => true
  | d :: ds => onlyT d && onlyTs ds
end
theorem onlyTs_mem : ∀ {ds : List PyData}, (∀ d ∈ ds, onlyT d = true) → onlyTs ds = true
  | [], _ => rfl
  | d :: ds, h => by
    show (onlyT d && onlyTs ds) = true
    rw [h d (List.mem_cons_self ..), onlyTs_mem fun e he => h e (List.mem_cons_of_mem _ he)]
    rfl
theorem mem_onlyTs : ∀ {ds : List PyData}, onlyTs ds = true → ∀ d ∈ ds, onlyT d = true
  | [], _, d, hd => by cases hd
  | e :: ds, h, d, hd => by
    have h' : (onlyT e && onlyTs ds) = true := h
    rw [Bool.and_eq_true] at h'
    rcases List.mem_cons.mp hd with rfl | hd
    · exact h'.1
    · exact mem_onlyTs h'.2 d hd
/-! such data stay where the tuples stay -/
def KpT (K : PySem.W.Frag) (H H' : Hp) : Prop := ∀ a xs, SqT K H a xs → SqT K H' a xs
mutual
theorem Dp.keep {K : PySem.W.Frag} {H H' : Hp} (h : KpT K H H') : ∀ {d : PyData} {v : V}, onlyT d = true → Dp K H v d → Dp K H' v d
  | .none, _, _, .non => .non
  | .bool _, _, _, .bl b => .bl b
  | .int _, _, _, .int i => .int i
  | .str _, _, _, .str x => .str x
  | .list _, _, o, _ => by cases o
  | .tuple ds, _, o, .tup s q => .tup (h _ _ s) (DpAll.keep h o q)
  | .dict _, _, o, _ => by cases o
theorem DpAll.keep {K : PySem.W.Frag} {H H' : Hp} (h : KpT K H H') : ∀ {ds : List PyData} {vs : List V}, onlyTs ds = true → DpAll K H vs ds → DpAll K H' vs ds
  | [], _, _, .nil => .nil
  | d :: ds, _, o, .cons a b => by
    have o' : (onlyT d && onlyTs ds) = true := o
    rw [Bool.and_eq_true] at o'
    exact .cons (Dp.keep h o'.1 a) (DpAll.keep h o'.2 b)
end
theorem Same.kpT {K : PySem.W.Frag} {H H' : Hp} (s : Same H H') : KpT K H H' := fun a xs h => by
  rcases h with (h | ⟨o, h⟩) | h
  · exact .inl (.inl (s _ _ h))
  · exact .inl (.inr ⟨o, s _ _ h⟩)
  · exact .inr h
theorem KpT.trans {K : PySem.W.Frag} {H H1 H2 : Hp} (a : KpT K H H1) (b : KpT K H1 H2) : KpT K H H2 := fun x xs h => b x xs (a x xs h)
theorem KpT.lst {K : PySem.W.Frag} {H : Hp} {l : Addr} {xs zs : List V} (h : H l = some (.lst xs)) : KpT K H (upd H l (.lst zs)) := fun a ys q => by
  rcases q with (q | ⟨o, q⟩) | q
  · exact .inl (.inl (by rw [upd_ne (fun z => by rw [z, h] at q; cases q)]; exact q))
  · exact .inl (.inr ⟨o, by rw [upd_ne (fun z => by rw [z, h] at q; cases q)]; exact q⟩)
  · exact .inr q
theorem DpAll.app {K : PySem.W.Frag} {H : Hp} : ∀ {as bs : List V} {ds es : List PyData}, DpAll K H as ds → DpAll K H bs es → DpAll K H (as ++ bs) (ds ++ es)
  | _, _, _, _, .nil, q => q
  | _, _, _, _, .cons a b, q => .cons a (DpAll.app b q)
theorem DpAll.len {K : PySem.W.Frag} {H : Hp} : ∀ {as : List V} {ds : List PyData}, DpAll K H as ds → as.length = ds.length
  | _, _, .nil => rfl
  | _, _, .cons _ b => by rw [List.length_cons, List.length_cons, DpAll.len b]
theorem DpAll.rev {K : PySem.W.Frag} {H : Hp} : ∀ {as : List V} {ds : List PyData}, DpAll K H as ds → DpAll K H as.reverse ds.reverse
  | _, _, .nil => .nil
  | _, _, .cons a b => by
    rw [List.reverse_cons, List.reverse_cons]
    exact DpAll.app (DpAll.rev b) (.cons a .nil)
/-! ### how long their text is -/
theorem piled_sum : ∀ ts : List Str, piled ts = (ts.map fun t => t.length + 2).sum
  | [] => rfl
  | t :: ts => by rw [piled_cons, piled_sum ts, List.map_cons, List.sum_cons]
theorem tuple_len (ts : List Str) : (tupleText ts).length ≤ 3 + (ts.map fun t => t.length + 2).sum := by
  unfold tupleText
  rw [strLen_append, strLen_append]
  have e1 : (((if ts.length == 1 then ",)" else ")" : String) : Str)).length ≤ 2 := by split <;> decide
  have e2 : (("(" : String) : Str).length = 1 := rfl
  cases ts with
  | nil =>
    have : (Str.join ", " ([] : List Str)).length = 0 := rfl
    omega
  | cons x r =>
    have := join_length_add (x :: r) (by simp)
    rw [piled_sum] at this
    omega
theorem textFrom_le : ∀ (ts : List Str) (k : Nat) (acc : Str), (textFrom k acc ts).length ≤ acc.length + (ts.map fun t => t.length + 2).sum
  | [], _, acc => Nat.le_refl _
  | t :: r, k, acc => by
    have h := textFrom_le r (k + 1) (acc ++ (if k > 0 then ", " else "" : String) ++ t)
    have e : (acc ++ (if k > 0 then ", " else "" : String) ++ t).length ≤ acc.length + 2 + t.length := by
      rw [strLen_append, strLen_append]
      have : (((if k > 0 then ", " else "" : String) : Str)).length ≤ 2 := by split <;> decide
      omega
    show (textFrom (k + 1) (acc ++ (if k > 0 then ", " else "" : String) ++ t) r).length ≤ _
    rw [List.map_cons, List.sum_cons]
    omega
theorem list_len (ts : List Str) : (listText ts).length ≤ 2 + (ts.map fun t => t.length + 2).sum := by
  unfold listText
  rw [strLen_append]
  have := textFrom_le ts 0 "["
  have e1 : (("[" : String) : Str).length = 1 := rfl
  have e2 : (("]" : String) : Str).length = 1 := rfl
  omega
/-- plain data of tuples, no deeper than n, with a text of at most m signs -/
structure Nice (n m : Nat) (d : PyData) : Prop where
  lay : PySem.PyData.canLay0 d = true
  dep : d.depth ≤ n
  ot : onlyT d = true
  sh : d.showable = true
  nd : d.hasDict = false
  sz : d.shown.length ≤ m
theorem Nice.up {n m n' m' : Nat} {d : PyData} (h : Nice n m d) (a : n ≤ n') (b : m ≤ m') : Nice n' m' d := ⟨h.lay, Nat.le_trans h.dep a, h.ot, h.sh, h.nd, Nat.le_trans h.sz b⟩
theorem showAll_mem : ∀ {ds : List PyData}, (∀ d ∈ ds, PyData.showable d = true) → PyData.showableAll ds = true
  | [], _ => rfl
  | d :: ds, h => by
    show (PyData.showable d && PyData.showableAll ds) = true
    rw [h d (List.mem_cons_self ..), showAll_mem fun e he => h e (List.mem_cons_of_mem _ he)]
    rfl
theorem noDict_mem : ∀ {ds : List PyData}, (∀ d ∈ ds, PyData.hasDict d = false) → PyData.hasDictAll ds = false
  | [], _ => rfl
  | d :: ds, h => by
    show (PyData.hasDict d || PyData.hasDictAll ds) = false
    rw [h d (List.mem_cons_self ..), noDict_mem fun e he => h e (List.mem_cons_of_mem _ he)]
    rfl
theorem shownAll_map : ∀ ds : List PyData, PyData.shownAll ds = ds.map PyData.shown
  | [] => rfl
  | d :: ds => by
    show PyData.shown d :: PyData.shownAll ds = _
    rw [shownAll_map ds]
    rfl
theorem lay_all (xs : List PyData) : PySem.PyData.canLayAll0 xs = xs.all PySem.PyData.canLay0 := by
  induction xs with
  | nil => rfl
  | cons x xs ih =>
    show (PySem.PyData.canLay0 x && PySem.PyData.canLayAll0 xs) = _
    rw [ih, List.all_cons]
theorem deep_all {n : Nat} : ∀ {xs : List PyData}, (∀ x ∈ xs, x.depth ≤ n) → PySem.PyData.depthAll xs ≤ n
  | [], _ => Nat.zero_le _
  | x :: xs, h => by
    show max x.depth (PySem.PyData.depthAll xs) ≤ n
    have h1 := h x (List.mem_cons_self ..)
    have h2 := deep_all fun y hy => h y (List.mem_cons_of_mem _ hy)
    omega
/-- the parts one by one: no deeper than n, their texts together -/
inductive Nices (n : Nat) : Nat → List PyData → Prop
  | nil : Nices n 0 []
  | cons {m k : Nat} {d : PyData} {ds : List PyData} : Nice n m d → Nices n k ds → Nices n (m + 2 + k) (d :: ds)
theorem Nices.mem {n k : Nat} {ds : List PyData} (h : Nices n k ds) : ∀ d ∈ ds, ∃ m, Nice n m d := by
  induction h with
  | nil => intro d hd; cases hd
  | cons a _ ih =>
    intro e he
    rcases List.mem_cons.mp he with rfl | he
    · exact ⟨_, a⟩
    · exact ih e he
theorem Nices.sum {n k : Nat} {ds : List PyData} (h : Nices n k ds) : ((PyData.shownAll ds).map fun t => t.length + 2).sum ≤ k := by
  induction h with
  | nil => exact Nat.le_refl _
  | @cons m k d ds a _ ih =>
    show ((PyData.shown d :: PyData.shownAll ds).map fun t => t.length + 2).sum ≤ _
    rw [List.map_cons, List.sum_cons]
    have := a.sz
    omega
theorem Nices.app {n k l : Nat} {ds es : List PyData} (a : Nices n k ds) (b : Nices n l es) : Nices n (k + l) (ds ++ es) := by
  induction a with
  | nil => rw [Nat.zero_add]; exact b
  | @cons m k d ds h _ ih =>
    have := Nices.cons h ih
    rw [show m + 2 + k + l = m + 2 + (k + l) by omega]
    exact this
theorem Nices.all {n m : Nat} : ∀ {ds : List PyData}, (∀ d ∈ ds, Nice n m d) → Nices n (ds.length * (m + 2)) ds
  | [], _ => by rw [List.length_nil, Nat.zero_mul]; exact .nil
  | d :: ds, h => by
    have := Nices.cons (h d (List.mem_cons_self ..)) (Nices.all fun e he => h e (List.mem_cons_of_mem _ he))
    rw [List.length_cons, Nat.succ_mul, Nat.add_comm]
    exact this
theorem nice_tup {n k : Nat} {ds : List PyData} (h : Nices n k ds) : Nice (n + 1) (3 + k) (.tuple ds) := by
  have me := h.mem
  refine ⟨?_, ?_, ?_, ?_, ?_, ?_⟩
  · show PySem.PyData.canLayAll0 ds = true
    rw [lay_all, List.all_eq_true]
    exact fun d hd => (let ⟨_, z⟩ := me d hd; z.lay)
  · show PySem.PyData.depthAll ds + 1 ≤ n + 1
    have := deep_all (n := n) fun d hd => (let ⟨_, z⟩ := me d hd; z.dep)
    omega
  · exact onlyTs_mem fun d hd => (let ⟨_, z⟩ := me d hd; z.ot)
  · exact showAll_mem fun d hd => (let ⟨_, z⟩ := me d hd; z.sh)
  · exact noDict_mem fun d hd => (let ⟨_, z⟩ := me d hd; z.nd)
  · have := tuple_len (PyData.shownAll ds)
    have := h.sum
    show (tupleText (PyData.shownAll ds)).length ≤ _
    omega
/-- a list of such data -/
structure NiceL (ds : List PyData) : Prop where
  lay : PySem.PyData.canLay0 (.list ds) = true
  dep : (PyData.list ds).depth ≤ 40
  ot : onlyTs ds = true
  sh : (PyData.list ds).showable = true
  nd : (PyData.list ds).hasDict = false
  sz : (PyData.list ds).shown.length ≤ sizeLine
theorem niceL {n k : Nat} {ds : List PyData} (h : Nices n k ds) (hn : n < 40) (hk : k + 2 ≤ sizeLine) : NiceL ds := by
  have me := h.mem
  refine ⟨?_, ?_, ?_, ?_, ?_, ?_⟩
  · show PySem.PyData.canLayAll0 ds = true
    rw [lay_all, List.all_eq_true]
    exact fun d hd => (let ⟨_, z⟩ := me d hd; z.lay)
  · show PySem.PyData.depthAll ds + 1 ≤ 40
    have := deep_all (n := n) fun d hd => (let ⟨_, z⟩ := me d hd; z.dep)
    omega
  · exact onlyTs_mem fun d hd => (let ⟨_, z⟩ := me d hd; z.ot)
  · exact showAll_mem fun d hd => (let ⟨_, z⟩ := me d hd; z.sh)
  · exact noDict_mem fun d hd => (let ⟨_, z⟩ := me d hd; z.nd)
  · have := list_len (PyData.shownAll ds)
    have := h.sum
    show (listText (PyData.shownAll ds)).length ≤ _
    omega
theorem NiceL.shaped {ds : List PyData} (h : NiceL ds) : SeqAt.shaped (.list ds) = true := by
  unfold SeqAt.shaped
  rw [h.lay, decide_eq_true (Nat.le_trans h.dep (by decide))]
  rfl
theorem NiceL.refl {ds : List PyData} (h : NiceL ds) : PyData.eqv (.list ds) (.list ds) = true := SeqAt.eqv_refl _ h.lay
theorem nice_int {n : Nat} {i : Int} (h : i.natAbs < 2 ^ 100) : Nice n 101 (.int i) := by
  have lg : i.natAbs.log2 < 1920 := by
    by_cases z : i.natAbs = 0
    · rw [z]; decide
    · have := (Nat.log2_lt z).mpr h
      omega
  refine ⟨rfl, Nat.zero_le _, rfl, decide_eq_true lg, rfl, ?_⟩
  show (Str.ofString (toString i)).length ≤ 101
  have e := int_text_length_le (a := i) (k := 100) (by decide) (by
    by_cases z : i.natAbs = 0
    · rw [z]; decide
    · exact (Nat.log2_lt z).mpr h)
  rw [ofString_length]; exact e
theorem nice_lit {n m : Nat} {s : Str} (h : PySem.PyData.strOk s = true) (k : (reprText s).length ≤ m) : Nice n m (.str s) := ⟨h, Nat.zero_le _, rfl, rfl, rfl, k⟩
end SH

set_option Elab.async false
set_option linter.all false
set_option maxRecDepth 100000
namespace SH
open PySem L2
abbrev sBookTree : Stmt := inClass (topS 58) 2
theorem scBookTree : FnScope ["self", "name", "work"] ["self", "name"] (defScope sBookTree) := ⟨rfl, rfl, rfl, by decide +kernel, rfl, by decide +kernel, by decide +kernel⟩
def spBookTree (C CM : Addr) : Sp := fun vs H Q E => ∃ (x : Addr) (Ws : List Wk) (nm : Str), vs = [.ref x, .str nm] ∧ BkIn H C x Ws ∧ nm.length ≤ 100000 ∧ (∀ v W, W ∈ Ws → W.name = nm → WkIn H W v → Q v H) ∧
  ((∀ W ∈ Ws, W.name ≠ nm) → ∀ d, H d = none → E (.ref CM) (some d) (upd H d (.xd [("name", .str nm)])))
section
variable {P : Program} {w : World} {K : PySem.W.Frag} {mg : Str → Option Value} {base : Heap}
theorem ok_bookTree {f C CM fM : Addr} {fd : FuncData} {B newId i : String} {bmB : List Value} (F : Fun K "tree" "Book.tree" sBookTree f fd) (BT : BkT K mg C) (TM : SupC P K mg "Missing" "name" CM fM B newId i bmB) : FnOk P w K mg base (L2.CX P w) 2 f fd ["self", "name"] (spBookTree C CM) := by
  refine F.okX scBookTree (fun vs H Q E h => ?_) (fun cdv A outer s H vs Q E hr h => ?_)
  · obtain ⟨x, Ws, nm, rfl, _⟩ := h
    rfl
  obtain ⟨x, Ws, nm, rfl, ⟨dx, p, us, hx, hp, hW⟩, ln, found, lost⟩ := h
  refine ⟨_, (pss_cons (ps_for (passes_of rfl) rfl (pi_tup (pe_fld (pv 0) rfl)) (pg_name (i := 2) scBookTree.nd rfl (.inl rfl)) (pss_one (ps_if (pt_cmpR op_eq (pe_ix ix_tup (pv 2) pe_int (fun _ _ => rfl)) (pv 1) (nomark _)) (pss_one (ps_ret (pv 2))) pss_nil)))
    (pss_one (ps_raiseS rfl TM hr (takes_of rfl rfl rfl rfl) (pa_cons (pv 1) pa_nil) rfl))), ?_⟩
  refine ⟨_, rfl, x, C, dx, _, _, rfl, hx, BT.cl, BT.nW, rfl, p, rfl, ⟨_, SqT.of hp⟩, ?_⟩
  refine for_tup (K := K) (a := p) (xs := us) (fun i σ H' => ∃ y : Option V, σ = [some (.ref x), some (.str nm), y] ∧ H' = H ∧ ∀ j, j < i → ∀ W, Ws[j]? = some W → W.name ≠ nm) ⟨none, rfl, rfl, fun j hj => absurd hj (Nat.not_lt_zero _)⟩ (fun i σ H' _ ⟨_, _, e, _⟩ => by rw [e]; exact SqT.of hp) ?_ ?_
  · rintro i v σ H1 hv ⟨y, rfl, rfl, none_⟩
    obtain ⟨W, hWi, hin⟩ := hW.2 i v hv
    obtain ⟨a, pn, pr, xs, rfl, ha, hpn, hpr, hR⟩ := hin
    refine ⟨_, rfl, a, _, 1, _, rfl, rfl, SqT.of ha, atI_nat (j := 1) rfl, _, rfl, rfl, _, rfl, ?_⟩
    refine ite2 (fun c => ?_) (fun c => ?_)
    · have e := V.str.inj (of_decide_eq_true c)
      exact ⟨_, rfl, found _ W (List.mem_of_getElem? hWi) e ⟨a, pn, pr, xs, rfl, ha, hpn, hpr, hR⟩⟩
    · refine ⟨_, rfl, rfl, fun j hj W' hW' => ?_⟩
      by_cases e : j = i
      · subst e
        have : W' = W := Option.some.inj (hW'.symm.trans hWi)
        subst this
        exact fun z => c (decide_eq_true (by rw [z]))
      · exact none_ j (by omega) W' hW'
  · rintro σ H1 ⟨y, rfl, rfl, none_⟩
    refine ⟨_, rfl, _, rfl, .inl ⟨nm, rfl, ln⟩, fun d hd => lost (fun W hWm => ?_) d hd⟩
    obtain ⟨j, hj, e⟩ := List.mem_iff_getElem.mp hWm
    exact none_ j (by rw [hW.1]; exact hj) W (by rw [List.getElem?_eq_getElem hj, e])
end
end SH

set_option Elab.async false
set_option linter.all false
set_option maxRecDepth 100000
/-! sorted of lists of plain data. -/
namespace SH
open PySem PySem.Spec PyProof.Rows L2
/-- these things, sorted by the data that they are -/
def sortV (xs : List V) (ds : List PyData) : List V := ((xs.zip ds).mergeSort (PySem.W.dataLe false Prod.snd)).map Prod.fst
def sortDs (ds : List PyData) : List PyData := ds.mergeSort (PySem.W.dataLe false id)
theorem dpLen {K : PySem.W.Frag} {H : Hp} : ∀ {xs : List V} {ds : List PyData}, DpAll K H xs ds → xs.length = ds.length
  | _, _, .nil => rfl
  | _, _, .cons _ t => congrArg (· + 1) (dpLen t)
theorem dpPairs {K : PySem.W.Frag} {H : Hp} : ∀ {xs : List V} {ds : List PyData}, DpAll K H xs ds → ∀ p ∈ xs.zip ds, Dp K H p.1 p.2
  | _, _, .nil, p, hp => by cases hp
  | _, _, .cons h t, p, hp => by
    rcases List.mem_cons.mp hp with e | hp
    · rw [e]; exact h
    · exact dpPairs t p hp
theorem dpOfPairs {K : PySem.W.Frag} {H : Hp} : ∀ (l : List (V × PyData)), (∀ p ∈ l, Dp K H p.1 p.2) → DpAll K H (l.map Prod.fst) (l.map Prod.snd)
  | [], _ => .nil
  | p :: l, h => .cons (h p List.mem_cons_self) (dpOfPairs l fun q hq => h q (List.mem_cons_of_mem _ hq))
theorem zip_snd {xs : List V} {ds : List PyData} (h : xs.length = ds.length) : (xs.zip ds).map Prod.snd = ds := by
  rw [List.map_snd_zip]
  omega
theorem sortV_dp {K : PySem.W.Frag} {H : Hp} {xs : List V} {ds : List PyData} (h : DpAll K H xs ds) : DpAll K H (sortV xs ds) (sortDs ds) := by
  have e : sortDs ds = ((xs.zip ds).mergeSort (PySem.W.dataLe false Prod.snd)).map Prod.snd := by
    unfold sortDs
    conv => lhs; rw [← zip_snd (dpLen h)]
    exact (PySem.W.sort_maps (r := PySem.W.dataLe false Prod.snd) (s := PySem.W.dataLe false id) Prod.snd fun _ _ _ _ => rfl).symm
  rw [e]
  exact dpOfPairs _ fun p hp => dpPairs h p (List.mem_mergeSort.mp hp)
theorem sortV_len {xs : List V} {ds : List PyData} (h : xs.length = ds.length) : (sortV xs ds).length = xs.length := by
  unfold sortV
  rw [List.length_map, List.length_mergeSort, List.length_zip]
  omega
def rSortD (K : PySem.W.Frag) : List V → Hp → VK → Prop := fun vs H Q => ∃ (a : Addr) (xs : List V) (ds : List PyData), vs = [V.ref a] ∧ SqL K H a xs ∧ DpAll K H xs ds ∧ PySem.W.AllAlike ds ∧ PySem.W.Sortable ds ∧ (∀ d ∈ ds, d.depth ≤ 60) ∧
  ∀ p : Addr, H p = none → Q (.ref p) (upd H p (.lst (sortV xs ds)))
section
variable {X : Cx}
theorem eachVals : ∀ {xs : List V} {us : List Value} {ds : List PyData}, Vals xs us → xs.length = ds.length → PySem.W.EachIs (fun u (b : V × PyData) => RelV b.1 u) us (xs.zip ds)
  | [], _, [], .nil, _ => .nil
  | _ :: _, _, _ :: _, .cons r t, h => .cons r (eachVals t (Nat.succ.inj h))
theorem valsEach : ∀ {us : List Value} {bs : List (V × PyData)}, PySem.W.EachIs (fun u (b : V × PyData) => RelV b.1 u) us bs → Vals (bs.map Prod.fst) us
  | _, _, .nil => .nil
  | _, _, .cons r t => .cons r (valsEach t)
theorem cr_sortD (hu : X.A.units + 64 < cLine) : CallR X (.builtin "sorted") (rSortD X.K) := by
  intro pins s σ H vs us Q I r h
  obtain ⟨a, xs, ds, rfl, hs, hd, al, so, dp, q⟩ := h
  obtain ⟨its, rv, hl, hz⟩ := I.list hs
  obtain ⟨u, rfl, ru⟩ := vals1 r
  obtain rfl : u = Value.ref a := ru
  have len := dpLen hd
  have hsn : (xs.zip ds).map Prod.snd = ds := zip_snd len
  have zl : (xs.zip ds).length = xs.length := by rw [List.length_zip]; omega
  have er : PySem.W.EachIs (fun (v : Value) (b : V × PyData) => ∃ as, Reads s.heap v b.2 as) its (xs.zip ds) := by
    have e1 := PySem.W.each_mem (eachVals rv len)
    exact e1.mono fun v b ⟨rb, mb⟩ => Dp.reads I b.2 b.1 v (dpPairs hd b mb) rb
  refine PySem.W.sorted_data (enc := Prod.snd) hl.isList (eachVals rv len) er (by rw [hsn]; exact al) (by rw [hsn]; exact so) (by rw [zl]; exact hz) (fun b hb => ?_) fun out ol oe => ?_
  · have : b.2 ∈ ds := (List.of_mem_zip hb).2
    have := dp _ this
    omega
  · have hv : Vals (sortV xs ds) out := valsEach oe
    obtain ⟨e, he⟩ := sortedAll_at s.heap its (List.toArray out)
    exact ⟨.ref (s.heap.objs.size + 1), upd H _ (.lst (sortV xs ds)), I.laid (t' := s.toks) (fun _ _ => sortedAll_old) (Nat.le_succ _) ⟨by rw [sortV_len len]; exact hz, out, e, hv, he⟩, rfl, q _ (I.hok.fresh (Nat.le_succ _))⟩
end
end SH

set_option Elab.async false
set_option linter.all false
set_option maxRecDepth 100000
/-! plain data: when two are the same; paths. -/
namespace SH
open PySem L2
mutual
def plainD : PyData → Bool
  | .none => true
  | .bool _ => false
  | .int _ => true
  | .str _ => true
  | .list ds => plainDs ds
  | .tuple ds => plainDs ds
  | .dict _ => false
def plainDs : List PyData → Bool
  | [] => true
  | d :: ds => plainD d && plainDs ds
end
mutual
theorem eqv_iff : ∀ {d e : PyData}, plainD d = true → plainD e = true → (PyData.eqv d e = true ↔ d = e)
  | .none, .none, _, _ => by simp [PyData.eqv]
  | .none, .int _, _, _ => by simp [PyData.eqv]
  | .none, .str _, _, _ => by simp [PyData.eqv]
  | .none, .list _, _, _ => by simp [PyData.eqv]
  | .none, .tuple _, _, _ => by simp [PyData.eqv]
  | .int _, .none, _, _ => by simp [PyData.eqv]
  | .int i, .int j, _, _ => by simp [PyData.eqv]
  | .int _, .str _, _, _ => by simp [PyData.eqv]
  | .int _, .list _, _, _ => by simp [PyData.eqv]
  | .int _, .tuple _, _, _ => by simp [PyData.eqv]
  | .str _, .none, _, _ => by simp [PyData.eqv]
  | .str _, .int _, _, _ => by simp [PyData.eqv]
  | .str x, .str y, _, _ => by simp [PyData.eqv]
  | .str _, .list _, _, _ => by simp [PyData.eqv]
  | .str _, .tuple _, _, _ => by simp [PyData.eqv]
  | .list _, .none, _, _ => by simp [PyData.eqv]
  | .list _, .int _, _, _ => by simp [PyData.eqv]
  | .list _, .str _, _, _ => by simp [PyData.eqv]
  | .list xs, .list ys, h, k => by
    have := eqvAll_iff (ds := xs) (es := ys) h k
    simp [PyData.eqv, this]
  | .list _, .tuple _, _, _ => by simp [PyData.eqv]
  | .tuple _, .none, _, _ => by simp [PyData.eqv]
  | .tuple _, .int _, _, _ => by simp [PyData.eqv]
  | .tuple _, .str _, _, _ => by simp [PyData.eqv]
  | .tuple _, .list _, _, _ => by simp [PyData.eqv]
  | .tuple xs, .tuple ys, h, k => by
    have := eqvAll_iff (ds := xs) (es := ys) h k
    simp [PyData.eqv, this]
  | .bool _, _, h, _ => by cases h
  | .dict _, _, h, _ => by cases h
  | _, .bool _, _, h => by cases h
  | _, .dict _, _, h => by cases h
theorem eqvAll_iff : ∀ {ds es : List PyData}, plainDs ds = true → plainDs es = true → (PyData.eqvAll ds es = true ↔ ds = es)
  | [], [], _, _ => by simp [PyData.eqvAll]
  | [], _ :: _, _, _ => by simp [PyData.eqvAll]
  | _ :: _, [], _, _ => by simp [PyData.eqvAll]
  | d :: ds, e :: es, h, k => by
    have h' : (plainD d && plainDs ds) = true := h
    have k' : (plainD e && plainDs es) = true := k
    rw [Bool.and_eq_true] at h' k'
    simp [PyData.eqvAll, eqv_iff h'.1 k'.1, eqvAll_iff h'.2 k'.2]
end
/-- a path -/
def pathD (p : List Int) : PyData := .tuple (p.map .int)
theorem ints_inj : ∀ {p q : List Int}, p.map PyData.int = q.map PyData.int → p = q
  | [], [], _ => rfl
  | [], _ :: _, h => by cases h
  | _ :: _, [], h => by cases h
  | a :: p, b :: q, h => by
    rw [List.map_cons, List.map_cons] at h
    injection h with h1 h2
    injection h1 with h1
    rw [h1, ints_inj h2]
theorem pathD_inj {p q : List Int} (h : pathD p = pathD q) : p = q := by
  unfold pathD at h
  injection h with h
  exact ints_inj h
theorem plain_ints : ∀ p : List Int, plainDs (p.map .int) = true
  | [] => rfl
  | _ :: p => by show (true && plainDs (p.map .int)) = true; rw [plain_ints p]; rfl
theorem plain_path (p : List Int) : plainD (pathD p) = true := plain_ints p
theorem eqv_path (p q : List Int) : PyData.eqv (pathD p) (pathD q) = decide (p = q) := by
  by_cases h : p = q
  · rw [decide_eq_true h]
    exact (eqv_iff (plain_path p) (plain_path q)).mpr (by rw [h])
  · rw [decide_eq_false h]
    cases e : PyData.eqv (pathD p) (pathD q) with
    | false => rfl
    | true => exact absurd (pathD_inj ((eqv_iff (plain_path p) (plain_path q)).mp e)) h
theorem plain_paths : ∀ ps : List (List Int), plainDs (ps.map pathD) = true
  | [] => rfl
  | p :: ps => by show (plainD (pathD p) && plainDs (ps.map pathD)) = true; rw [plain_path, plain_paths ps]; rfl
theorem paths_inj : ∀ {ps qs : List (List Int)}, ps.map pathD = qs.map pathD → ps = qs
  | [], [], _ => rfl
  | [], _ :: _, h => by cases h
  | _ :: _, [], h => by cases h
  | a :: p, b :: q, h => by
    rw [List.map_cons, List.map_cons] at h
    injection h with h1 h2
    rw [pathD_inj h1, paths_inj h2]
theorem eqv_paths (ps qs : List (List Int)) : PyData.eqv (.list (ps.map pathD)) (.list (qs.map pathD)) = decide (ps = qs) := by
  have i := eqv_iff (d := .list (ps.map pathD)) (e := .list (qs.map pathD)) (plain_paths ps) (plain_paths qs)
  by_cases h : ps = qs
  · rw [decide_eq_true h]
    exact i.mpr (by rw [h])
  · rw [decide_eq_false h]
    cases e : PyData.eqv (.list (ps.map pathD)) (.list (qs.map pathD)) with
    | false => rfl
    | true =>
      have := i.mp e
      injection this with this
      exact absurd (paths_inj this) h
theorem lay_ints : ∀ p : List Int, PyData.canLayAll0 (p.map .int) = true
  | [] => by rw [List.map_nil, PyData.canLayAll0]
  | _ :: p => by rw [List.map_cons, PyData.canLayAll0, lay_ints p, PyData.canLay0]; rfl
theorem depth_ints : ∀ p : List Int, PyData.depthAll (p.map .int) = 0
  | [] => by rw [List.map_nil, PyData.depthAll]
  | _ :: p => by rw [List.map_cons, PyData.depthAll, depth_ints p, PyData.depth]; rfl
theorem depth_path (p : List Int) : (pathD p).depth = 1 := by unfold pathD; rw [PyData.depth, depth_ints]
theorem shaped_path (p : List Int) : SeqAt.shaped (pathD p) = true := by
  unfold SeqAt.shaped
  rw [depth_path]
  unfold pathD
  rw [PyData.canLay0, lay_ints]
  rfl
theorem lay_paths : ∀ ps : List (List Int), PyData.canLayAll0 (ps.map pathD) = true
  | [] => by rw [List.map_nil, PyData.canLayAll0]
  | p :: ps => by
    rw [List.map_cons, PyData.canLayAll0, lay_paths ps]
    unfold pathD
    rw [PyData.canLay0, lay_ints]
    rfl
theorem depth_paths : ∀ ps : List (List Int), PyData.depthAll (ps.map pathD) ≤ 1
  | [] => by rw [List.map_nil, PyData.depthAll]; decide
  | p :: ps => by
    have := depth_paths ps
    rw [List.map_cons, PyData.depthAll, depth_path]
    omega
theorem shaped_paths (ps : List (List Int)) : SeqAt.shaped (.list (ps.map pathD)) = true := by
  unfold SeqAt.shaped
  have := depth_paths ps
  rw [PyData.canLay0, lay_paths, PyData.depth]
  simp
  omega
theorem only_ints : ∀ p : List Int, onlyTs (p.map .int) = true
  | [] => rfl
  | _ :: p => by show (true && onlyTs (p.map .int)) = true; rw [only_ints p]; rfl
theorem only_path (p : List Int) : onlyT (pathD p) = true := only_ints p
theorem only_paths : ∀ ps : List (List Int), onlyTs (ps.map pathD) = true
  | [] => rfl
  | p :: ps => by show (onlyT (pathD p) && onlyTs (ps.map pathD)) = true; rw [only_path, only_paths ps]; rfl
section
variable {K : PySem.W.Frag} {H : Hp}
theorem dpInts : ∀ {p : List Int} {xs : List V}, DpAll K H xs (p.map PyData.int) → xs = p.map V.int
  | [], _, .nil => rfl
  | _ :: _, _, .cons (.int _) t => by rw [dpInts t]; rfl
theorem intsDp : ∀ p : List Int, DpAll K H (p.map V.int) (p.map PyData.int)
  | [] => .nil
  | i :: p => .cons (.int i) (intsDp p)
theorem dpPath {v : V} {p : List Int} (h : Dp K H v (pathD p)) : ∃ a, v = .ref a ∧ SqT K H a (p.map V.int) := by
  cases h with
  | tup s q => exact ⟨_, rfl, by rw [← dpInts q]; exact s⟩
theorem pathDp {a : Addr} {p : List Int} (h : SqT K H a (p.map V.int)) : Dp K H (.ref a) (pathD p) := .tup h (intsDp p)
theorem dpGet : ∀ {xs : List V} {ds : List PyData} {i : Nat} {v : V}, DpAll K H xs ds → xs[i]? = some v → ∃ d, ds[i]? = some d ∧ Dp K H v d
  | _, _, _, _, .nil, h => by simp at h
  | _, _, 0, _, .cons a _, h => by
    obtain rfl := Option.some.inj h
    exact ⟨_, rfl, a⟩
  | _, _, i + 1, _, .cons _ t, h => dpGet (i := i) t h
theorem dpPathAt {xs : List V} {ps : List (List Int)} {i : Nat} {v : V} (h : DpAll K H xs (ps.map pathD)) (e : xs[i]? = some v) : ∃ p, ps[i]? = some p ∧ Dp K H v (pathD p) := by
  obtain ⟨d, hd, q⟩ := dpGet h e
  rw [List.getElem?_map] at hd
  cases hp : ps[i]? with
  | none => rw [hp] at hd; cases hd
  | some p =>
    rw [hp] at hd
    obtain rfl := Option.some.inj hd
    exact ⟨p, rfl, q⟩
theorem dpTake : ∀ {xs : List V} {ds : List PyData} (n : Nat), DpAll K H xs ds → DpAll K H (xs.take n) (ds.take n)
  | _, _, 0, _ => by rw [List.take_zero, List.take_zero]; exact .nil
  | _, _, _ + 1, .nil => by rw [List.take_nil, List.take_nil]; exact .nil
  | _, _, n + 1, .cons a t => .cons a (dpTake n t)
theorem dpDrop : ∀ {xs : List V} {ds : List PyData} (n : Nat), DpAll K H xs ds → DpAll K H (xs.drop n) (ds.drop n)
  | _, _, 0, h => h
  | _, _, _ + 1, .nil => by rw [List.drop_nil, List.drop_nil]; exact .nil
  | _, _, n + 1, .cons _ t => dpDrop n t
end
section
variable {K : PySem.W.Frag} {a b : Addr} {xs ys : List V}
/-- zip of two tuples, however long -/
theorem walk_zipT : Walk (RZ.ItzT K a b) (min xs.length ys.length) (fun H => SqT K H a xs ∧ SqT K H b ys) (YPair (fun i => xs[i]?) (fun i => ys[i]?)) := by
  refine ⟨fun i _ hi q => ?_, fun _ q => ⟨xs, ys, q.1, q.2, by omega⟩, fun i H v H' _ q y => ?_⟩
  · exact ⟨xs, ys, xs[i]'(by omega), ys[i]'(by omega), q.1, q.2, List.getElem?_eq_getElem (by omega), List.getElem?_eq_getElem (by omega)⟩
  · obtain ⟨T, x, y, e, n, e2, f, g⟩ := y
    exact ⟨T, x, y, e, n, e2, f xs q.1, g ys q.2⟩
end
theorem kp {K : PySem.W.Frag} {H H' : Hp} {a : Addr} {xs : List V} (s : Same H H') (h : SqT K H a xs) : SqT K H' a xs := Same.kpT s _ _ h
theorem dpS {K : PySem.W.Frag} {H H' : Hp} {v : V} {d : PyData} (s : Same H H') (o : onlyT d = true) (h : Dp K H v d) : Dp K H' v d := Dp.keep (Same.kpT s) o h
theorem dpsS {K : PySem.W.Frag} {H H' : Hp} {vs : List V} {ds : List PyData} (s : Same H H') (o : onlyTs ds = true) (h : DpAll K H vs ds) : DpAll K H' vs ds := DpAll.keep (Same.kpT s) o h
theorem cut_all {α : Type} {xs : List α} {lo hi : Option Int} (h : HT.sIx xs.length 0 lo = 0 ∧ HT.sIx xs.length xs.length hi = xs.length) : (xs.drop (HT.sIx xs.length 0 lo)).take (HT.sIx xs.length xs.length hi - HT.sIx xs.length 0 lo) = xs := by
  rw [h.1, h.2, List.drop_zero, Nat.sub_zero, List.take_length]
/-- a slice of a tuple, new or the tuple itself -/
theorem slA {K : PySem.W.Frag} {H : Hp} {a : Addr} {xs : List V} {lo hi : Option Int} {Q : VK} (h : SqT K H a xs) (k : ∀ b H', Same H H' → SqT K H' b (cutV xs lo hi) → Q (.ref b) H') : rSlA K (.ref a) lo hi H Q :=
  ⟨a, xs, rfl, h, fun e => k a H (Same.refl _) (by unfold cutV; rw [cut_all e]; exact h), fun _ p hp => k p _ (same_new hp _) (.inl (.inl upd_same))⟩
theorem joinLen (a : Str) : ∀ l : List Str, (PySem.Txt.join a l).length ≤ (l.map (·.length)).sum + l.length * a.length := by
  have step : ∀ l : List Str, (PySem.Str.join a l).length ≤ (l.map (·.length)).sum + l.length * a.length := by
    intro l
    induction l with
    | nil => exact Nat.zero_le _
    | cons x r ih =>
      cases r with
      | nil =>
        show x.length ≤ x.length + 0 + 1 * a.length
        omega
      | cons y t =>
        show (x ++ a ++ PySem.Str.join a (y :: t)).length ≤ x.length + ((y :: t).map (·.length)).sum + ((y :: t).length + 1) * a.length
        rw [app_len, app_len, Nat.succ_mul]
        omega
  intro l
  show (Builtin.Str.glued a l).length ≤ _
  rw [StrLaws.glued_eq_join]
  exact step l
theorem eqDK {X : Cx} (K : PySem.W.Frag) (hu : X.A.units + 64 < cLine) (hK : X.K = K := by rfl) : OpR X (compareOp .Eq) (rEqD K) := hK ▸ op_eqD hu
theorem neDK {X : Cx} (K : PySem.W.Frag) (hu : X.A.units + 64 < cLine) (hK : X.K = K := by rfl) : OpR X (compareOp .NotEq) (rNeD K) := hK ▸ op_neD hu
theorem call_isi_at {X : Cx} (K : PySem.W.Frag) (h : X.K = K := by rfl) : CallR X (.builtin "isinstance") (rIsi K) := h ▸ call_isi
/-! ### the order of paths -/
def ahead (p q : List Int) : Bool := if p.take (min p.length q.length) = q.take (min p.length q.length) then decide (q.length < p.length) else HT.lexLt p q
/-- the same, number by number -/
def bef : List Int → List Int → Bool
  | [], _ => false
  | _ :: _, [] => true
  | x :: p, y :: q => if x = y then bef p q else decide (x < y)
theorem ahead_bef : ∀ p q : List Int, ahead p q = bef p q
  | [], q => by unfold ahead bef; simp
  | _ :: _, [] => by unfold ahead bef; simp
  | x :: p, y :: q => by
    have ih := ahead_bef p q
    unfold ahead at ih ⊢
    unfold bef
    rw [show min (x :: p).length (y :: q).length = min p.length q.length + 1 by simp only [List.length_cons]; omega, List.take_succ_cons, List.take_succ_cons]
    by_cases h : x = y
    · subst h
      rw [if_pos rfl, ← ih]
      by_cases e : p.take (min p.length q.length) = q.take (min p.length q.length)
      · rw [if_pos (by rw [e]), if_pos e]
        simp
      · rw [if_neg (by intro z; injection z with _ z; exact e z), if_neg e]
        simp [HT.lexLt]
    · rw [if_neg h, if_neg (by intro z; injection z with z _; exact h z)]
      simp [HT.lexLt, h]
theorem bef_irrefl : ∀ p, bef p p = false
  | [] => rfl
  | x :: p => by unfold bef; rw [if_pos rfl]; exact bef_irrefl p
end SH

set_option Elab.async false
set_option linter.all false
set_option maxRecDepth 100000
/-! dict(zip(t, l)), t a tuple of texts, l a list. -/
namespace SH
open PySem PySem.Spec PyProof.Rows L2
section
variable {prog : Program} {w : World} {A : Around} {E : Value → Shared → Prop} {s : Shared} {z TI TO T i1 i2 : Addr} {fp1 fp2 : List Addr} {n1 n2 i : Nat} {P1 P2 : Nat → Value → Prop} {St1 St2 : Nat → Heap → Prop} {f : Bool} {oT : Obj}
theorem heldItem {Q : Value → Shared → Prop} (S : ZipSep2 z TI TO i1 i2 fp1 fp2) (D1 : Draws prog w A i1 fp1 n1 P1 St1) (D2 : Draws prog w A i2 fp2 n2 P2 St2) (hz : IsZipHeld s.heap z TI TO T f) (hT : s.heap.get? T = some oT) (hTI : IsTupOf2 s.heap TI (.ref i1) (.ref i2)) (a1 : St1 i s.heap) (a2 : St2 i s.heap) (l1 : i < n1) (l2 : i < n2)
    (k : ∀ x1 x2 h' tk, P1 i x1 → P2 i x2 → IsZipHeld h' z TI TO T true → St1 (i + 1) h' → St2 (i + 1) h' → IsTupOf2 h' s.heap.objs.size x1 x2 → (∀ c o, c ≠ z → c ≠ i1 → c ≠ i2 → s.heap.get? c = some o → h'.get? c = some o) → Q (.ref s.heap.objs.size) { s with heap := h', toks := tk }) :
    wpAny (model prog w) A (Builtin.«zip.__next__» ⟨[.ref z], []⟩) (fun fin s' => ∃ v, fin = .done (.ret v) ∧ Q v s') E s := by
  obtain ⟨hp, g, d, tk0, os⟩ := s
  refine (show wpAny _ _ (field (.ref z) 2 >>= _) _ _ _ from wpAny_bind (wpAny_field hz rfl (x := .bool false) rfl (show wpAny _ _ (field (.ref z) 3 >>= _) _ _ _ from wpAny_bind (wpAny_field hz rfl (x := .ref TI) rfl (wpAny_bind (wpAny_seqItems hTI rfl ?_))))))
  refine (show wpAny _ _ (Builtin.SmallTypes.ownedTupleIsFree (.ref z) >>= _) _ _ _ from wpAny_bind (wpAny_tupleHeld_zip hz hT fun g0 hz0 hs0 => ?_))
  replace hs0 : Heap.SameBut z hp g0 := hs0
  simp only [Bool.false_eq_true, if_false]
  refine wpAny_bind ?_
  rw [← Array.forIn_toList]
  simp only [List.forIn_cons, List.forIn_nil]
  refine wpAny_bind (wpAny_bind (wpAny_holding (show wpAny _ _ (Builtin.SmallTypes.nextOf (.ref i1) >>= _) _ _ ⟨g0, g, d, tk0, os⟩ from wpAny_bind (D1.item i _ _ _ l1 (D1.over a1 hs0 S.zf1) fun x1 p1 tk1 hx1 sn1 hp1 => wpAny_pure (wpAny_pure ?_)))))
  replace hp1 : Heap.SameBut i1 g0 p1 := hp1
  refine wpAny_bind (wpAny_bind (wpAny_holding (show wpAny _ _ (Builtin.SmallTypes.nextOf (.ref i2) >>= _) _ _ ⟨p1, g, d, tk1, os⟩ from wpAny_bind (D2.item i _ _ _ l2 (D2.over (D2.over a2 hs0 S.zf2) hp1 S.sep1_2) fun x2 p2 tk2 hx2 sn2 hp2 => wpAny_pure (wpAny_pure (wpAny_pure ?_))))))
  replace hp2 : Heap.SameBut i2 p1 p2 := hp2
  refine (show wpAny _ _ (newTuple [x1, x2] >>= _) _ _ _ from wpAny_bind (wpAny_newTuple (wpAny_pure ⟨_, rfl, ?_⟩)))
  have sz : p2.objs.size = hp.objs.size := by rw [hp2.1, hp1.1, hs0.1]
  have kz : IsZipHeld p2 z TI TO T true := hp2.extBut _ _ S.zi2 (hp1.extBut _ _ S.zi1 hz0)
  have kk : ∀ c o, c ≠ z → c ≠ i1 → c ≠ i2 → hp.get? c = some o → p2.get? c = some o := fun c o c1 c2 c3 e => hp2.extBut _ _ c3 (hp1.extBut _ _ c2 (hs0.extBut _ _ c1 e))
  have k1 : St1 (i + 1) p2 := D1.over sn1 hp2 S.sep2_1
  have up : ∀ b o, p2.get? b = some o → (p2.push { cls := .type "tuple", data := .seq #[x1, x2] }).get? b = some o := fun b o e => Heap.get?_push_of_some _ e
  have kT : IsTupOf2 (p2.push { cls := .type "tuple", data := .seq #[x1, x2] }) p2.objs.size x1 x2 := Heap.get?_push_size _ rfl
  show Q (.ref p2.objs.size) _
  rw [sz] at kT ⊢
  exact k x1 x2 _ tk2 hx1 hx2 (up _ _ kz) (D1.frame _ _ _ k1 fun b _ o e => up b o e) (D2.frame _ _ _ sn2 fun b _ o e => up b o e) kT fun c o c1 c2 c3 e => up _ _ (kk c o c1 c2 c3 e)
theorem heldEnd {Q : Fin → Shared → Prop} (S : ZipSep2 z TI TO i1 i2 fp1 fp2) (D1 : Draws prog w A i1 fp1 n1 P1 St1) (D2 : Draws prog w A i2 fp2 n2 P2 St2) (hz : IsZipHeld s.heap z TI TO T f) (hT : s.heap.get? T = some oT) (hTI : IsTupOf2 s.heap TI (.ref i1) (.ref i2)) (a1 : St1 i s.heap) (a2 : St2 i s.heap) (l1 : i ≤ n1) (l2 : i ≤ n2) (fin : i = n1 ∨ i = n2)
    (k : ∀ h' tk e, (∀ c o, c ≠ z → c ≠ i1 → c ≠ i2 → s.heap.get? c = some o → h'.get? c = some o) → (∃ o, h'.get? e = some o ∧ o.cls = .type "StopIteration") → E (.ref e) { s with heap := h', toks := tk }) :
    wpAny (model prog w) A (Builtin.«zip.__next__» ⟨[.ref z], []⟩) Q E s := by
  obtain ⟨hp, g, d, tk0, os⟩ := s
  refine (show wpAny _ _ (field (.ref z) 2 >>= _) _ _ _ from wpAny_bind (wpAny_field hz rfl (x := .bool false) rfl (show wpAny _ _ (field (.ref z) 3 >>= _) _ _ _ from wpAny_bind (wpAny_field hz rfl (x := .ref TI) rfl (wpAny_bind (wpAny_seqItems hTI rfl ?_))))))
  refine (show wpAny _ _ (Builtin.SmallTypes.ownedTupleIsFree (.ref z) >>= _) _ _ _ from wpAny_bind (wpAny_tupleHeld_zip hz hT fun g0 hz0 hs0 => ?_))
  replace hs0 : Heap.SameBut z hp g0 := hs0
  simp only [Bool.false_eq_true, if_false]
  refine wpAny_bind ?_
  rw [← Array.forIn_toList]
  simp only [List.forIn_cons, List.forIn_nil]
  by_cases c : i < n1
  · refine wpAny_bind (wpAny_bind (wpAny_holding (show wpAny _ _ (Builtin.SmallTypes.nextOf (.ref i1) >>= _) _ _ ⟨g0, g, d, tk0, os⟩ from wpAny_bind (D1.item i _ _ _ c (D1.over a1 hs0 S.zf1) fun x1 p1 tk1 hx1 sn1 hp1 => wpAny_pure (wpAny_pure ?_)))))
    replace hp1 : Heap.SameBut i1 g0 p1 := hp1
    have e2 : i = n2 := by omega
    subst e2
    refine wpAny_bind (wpAny_bind (wpAny_holding (show wpAny _ _ (Builtin.SmallTypes.nextOf (.ref i2) >>= _) _ _ ⟨p1, g, d, tk1, os⟩ from wpAny_bind (D2.done ⟨p1, g, d, tk1, os⟩ _ _ (D2.over (D2.over a2 hs0 S.zf2) hp1 S.sep1_2) fun q e hq he => ?_))))
    replace hq : Heap.ExtBut i2 p1 q := hq
    exact k q tk1 e (fun c o c1 c2 c3 x => hq _ _ c3 (hp1.extBut _ _ c2 (hs0.extBut _ _ c1 x))) he
  · have e1 : i = n1 := by omega
    subst e1
    refine wpAny_bind (wpAny_bind (wpAny_holding (show wpAny _ _ (Builtin.SmallTypes.nextOf (.ref i1) >>= _) _ _ ⟨g0, g, d, tk0, os⟩ from wpAny_bind (D1.done ⟨g0, g, d, tk0, os⟩ _ _ (D1.over a1 hs0 S.zf1) fun q e hq he => ?_))))
    replace hq : Heap.ExtBut i1 g0 q := hq
    exact k q tk0 e (fun c o c1 c2 _ x => hq _ _ c2 (hs0.extBut _ _ c1 x)) he
theorem nextItem {Q : Option Value → Shared → Prop} (S : ZipSep2 z TI TO i1 i2 fp1 fp2) (D1 : Draws prog w A.in1 i1 fp1 n1 P1 St1) (D2 : Draws prog w A.in1 i2 fp2 n2 P2 St2) (hz : IsZipHeld s.heap z TI TO T f) (hT : s.heap.get? T = some oT) (hTI : IsTupOf2 s.heap TI (.ref i1) (.ref i2)) (a1 : St1 i s.heap) (a2 : St2 i s.heap) (l1 : i < n1) (l2 : i < n2)
    (k : ∀ x1 x2 h' tk, P1 i x1 → P2 i x2 → IsZipHeld h' z TI TO T true → St1 (i + 1) h' → St2 (i + 1) h' → IsTupOf2 h' s.heap.objs.size x1 x2 → (∀ c o, c ≠ z → c ≠ i1 → c ≠ i2 → s.heap.get? c = some o → h'.get? c = some o) → Q (some (.ref s.heap.objs.size)) { s with heap := h', toks := tk }) :
    wpAny (model prog w) A (pyNext (.ref z)) Q E s := by
  have ty : s.TypeIs (.ref z) "zip" := ⟨_, hz, rfl⟩
  unfold pyNext
  exact wpAny_bind (wpAny_attempt (wpAny_callSpecial?_slot (name := Str.ofString "__next__") ty F.slot_zip_next (wpAny_call_entry F.slot_zip_next ty F.entry_zip_next (heldItem S D1 D2 hz hT hTI a1 a2 l1 l2 fun x1 x2 h' tk b1 b2 b3 b4 b5 b6 b7 => wpAny_pure (k x1 x2 h' tk b1 b2 b3 b4 b5 b6 b7)) (F.args_zip_next_1 _))))
theorem nextEnd {Q : Option Value → Shared → Prop} (S : ZipSep2 z TI TO i1 i2 fp1 fp2) (D1 : Draws prog w A.in1 i1 fp1 n1 P1 St1) (D2 : Draws prog w A.in1 i2 fp2 n2 P2 St2) (hz : IsZipHeld s.heap z TI TO T f) (hT : s.heap.get? T = some oT) (hTI : IsTupOf2 s.heap TI (.ref i1) (.ref i2)) (a1 : St1 i s.heap) (a2 : St2 i s.heap) (l1 : i ≤ n1) (l2 : i ≤ n2) (fin : i = n1 ∨ i = n2)
    (k : ∀ h' tk, (∀ c o, c ≠ z → c ≠ i1 → c ≠ i2 → s.heap.get? c = some o → h'.get? c = some o) → Q none { s with heap := h', toks := tk }) : wpAny (model prog w) A (pyNext (.ref z)) Q E s := by
  have ty : s.TypeIs (.ref z) "zip" := ⟨_, hz, rfl⟩
  unfold pyNext
  refine wpAny_bind (wpAny_attempt (wpAny_callSpecial?_slot (name := Str.ofString "__next__") ty F.slot_zip_next (wpAny_call_entry F.slot_zip_next ty F.entry_zip_next (heldEnd S D1 D2 hz hT hTI a1 a2 l1 l2 fin fun h' tk e hk ⟨o, ho, hc⟩ => wpAny_bind (wpAny_isInstance (T := "StopIteration") (b := true) ⟨o, ho, hc⟩ isSubtype_stop (wpAny_pure (k _ _ hk)))) (F.args_zip_next_1 _))))
/-- zip of a tuple and a list, as what dict() is handed -/
theorem tlArg {t l : Addr} (xs ys : Array Value) (d1 : TI ≠ z) (d2 : TO ≠ z) (d3 : TI ≠ TO) (d4 : TI ≠ i1) (d5 : TI ≠ i2) (d6 : z ≠ i1) (d7 : z ≠ i2) (d8 : TO ≠ i1) (d9 : TO ≠ i2) (d10 : i1 ≠ i2) (e1 : t ≠ z) (e2 : t ≠ TO) (e3 : t ≠ i1) (e4 : t ≠ i2) (m1 : l ≠ z) (m2 : l ≠ TO) (m3 : l ≠ i1) (m4 : l ≠ i2) :
    PairArg prog w "zip" z [z, TI, TO, i1, i2, t, l] [z, TO, i1, i2] (min xs.size ys.size) (fun i k v => xs[i]? = some k ∧ ys[i]? = some v)
      (fun h => IsZip h z TI TO .none ∧ IsTupOf2 h TI (.ref i1) (.ref i2) ∧ (∃ a b, IsTupOf2 h TO a b) ∧ (h.IsTupleIter i1 t 0 ∧ h.IsTuple t xs) ∧ h.IsListIter i2 l 0 ∧ h.IsList l ys) := by
  have S : ZipSep2 z TI TO i1 i2 [i1, t] [i2, l] := ⟨d1, d2, d3, d4, by simp, by simp [d6, Ne.symm e1], by simp [d8, Ne.symm e2], d5, by simp, by simp [d7, Ne.symm m1], by simp [d9, Ne.symm m2], by simp [d10, Ne.symm m3], by simp [Ne.symm d10, Ne.symm e4]⟩
  exact {
    type := fun s ok => ⟨_, ok.1, rfl⟩
    notDict := by decide
    keep := fun h h' ⟨q1, q2, ⟨a, b, q3⟩, ⟨q4, q5⟩, q6, q7⟩ hk => ⟨hk _ _ q1, hk _ _ q2, ⟨a, b, hk _ _ q3⟩, ⟨q4.at fun o e => hk _ o e, q5.at fun o e => hk _ o e⟩, q6.at fun o e => hk _ o e, q7.at fun o e => hk _ o e⟩
    there := fun h ⟨q1, q2, ⟨a, c, q3⟩, ⟨⟨o1, q4, _⟩, ⟨o2, q5, _⟩⟩, ⟨o3, q6, _⟩, ⟨o4, q7, _⟩⟩ b hb => by
      simp only [List.mem_cons, List.not_mem_nil, or_false] at hb
      rcases hb with rfl | rfl | rfl | rfl | rfl | rfl | rfl
      · exact ⟨_, q1⟩
      · exact ⟨_, q2⟩
      · exact ⟨_, q3⟩
      · exact ⟨_, q4⟩
      · exact ⟨_, q6⟩
      · exact ⟨_, q5⟩
      · exact ⟨_, q7⟩
    sub := fun b hb => by simp at hb ⊢; rcases hb with rfl | rfl | rfl | rfl <;> simp
    noKeys := fun A s Q E hA ok h => getAttrOr_miss_zip ok.1 rfl rfl rfl zip_no_keys (by decide +kernel) hA h
    iter := fun A s d Q E hA ⟨q1, q2, ⟨a, b, q3⟩, q4, q5⟩ hd hdf h => by
      simp only [List.mem_cons, List.not_mem_nil, or_false, not_or] at hdf
      obtain ⟨dz, dTI, dTO, di1, di2, dt, dl⟩ := hdf
      have D1 := Draws.tuple (prog := prog) (w := w) (A := A.in1) hA i1 t e3 xs
      have D2 := Draws.list (prog := prog) (w := w) (A := A.in1) hA i2 l m4 ys
      refine wpAny_pyIter_zip q1 (h z [z, TO, i1, i2] (fun i h => IsTupOf2 h TI (.ref i1) (.ref i2) ∧ (h.IsTupleIter i1 t i ∧ h.IsTuple t xs) ∧ (h.IsListIter i2 l i ∧ h.IsList l ys) ∧
        ((IsZip h z TI TO .none ∧ ∃ a b, IsTupOf2 h TO a b) ∨ ∃ T f oT, IsZipHeld h z TI TO T f ∧ h.get? T = some oT ∧ T ≠ z ∧ T ≠ i1 ∧ T ≠ i2 ∧ T ≠ d)) s.heap s.toks ?_ ⟨q2, q4, q5, .inl ⟨q1, a, b, q3⟩⟩ (fun _ _ e => e) fun b hb => .inl hb)
      exact {
        off := fun hm => by
          simp only [List.mem_cons, List.not_mem_nil, or_false] at hm
          rcases hm with e | e | e | e
          · exact dz e
          · exact dTO e
          · exact di1 e
          · exact di2 e
        frame := fun i h1 h2 ⟨r1, ⟨r2, r3⟩, ⟨r4, r5⟩, r6⟩ hk => by
          refine ⟨hk _ _ (Ne.symm dTI) r1, ⟨r2.at fun o e => hk _ o (Ne.symm di1) e, r3.at fun o e => hk _ o (Ne.symm dt) e⟩, ⟨r4.at fun o e => hk _ o (Ne.symm di2) e, r5.at fun o e => hk _ o (Ne.symm dl) e⟩, ?_⟩
          rcases r6 with ⟨z1, a, b, z2⟩ | ⟨T, f, oT, z1, z2, z3, z4, z5, z6⟩
          · exact .inl ⟨hk _ _ (Ne.symm dz) z1, a, b, hk _ _ (Ne.symm dTO) z2⟩
          · exact .inr ⟨T, f, oT, hk _ _ (Ne.symm dz) z1, hk _ _ z6 z2, z3, z4, z5, z6⟩
        item := fun i s1 Q1 E1 hi ⟨r1, r2, r3, r4⟩ hds hQ => by
          have hx : i < xs.size := by omega
          have hy : i < ys.size := by omega
          have gt : ∀ {c o}, s1.heap.get? c = some o → s1.heap.objs.size ≠ c := fun e => Nat.ne_of_gt (Heap.lt_size e)
          have n1 : s1.heap.objs.size ≠ i1 := let ⟨_, e, _⟩ := r2.1; gt e
          have n2 : s1.heap.objs.size ≠ i2 := let ⟨_, e, _⟩ := r3.1; gt e
          rcases r4 with ⟨z1, a, b, z2⟩ | ⟨T, f, oT, z1, z2, z3, z4, z5, z6⟩
          · refine wpAny_pyNext_zipD2_item S D1 D2 z1 r1 z2 r2 r3 hx hy fun x1 x2 h' tk p1 p2 b1 b2 b3 b4 b5 b6 hk => ?_
            exact hQ s1.heap.objs.size x1 x2 h' tk ⟨p1, p2⟩ (.inl ⟨_, b5, rfl, _, rfl⟩) ⟨hk _ _ d1 d3 d4 d5 r1, b3, b4, .inr ⟨s1.heap.objs.size, false, _, b1, b5, gt z1, n1, n2, Nat.ne_of_gt hds⟩⟩
              fun c o hc e => hk c o (fun x => hc (by simp [x])) (fun x => hc (by simp [x])) (fun x => hc (by simp [x])) (fun x => hc (by simp [x])) e
          · refine nextItem S D1 D2 z1 z2 r1 r2 r3 hx hy fun x1 x2 h' tk p1 p2 b1 b3 b4 b5 hk => ?_
            exact hQ s1.heap.objs.size x1 x2 h' tk ⟨p1, p2⟩ (.inl ⟨_, b5, rfl, _, rfl⟩) ⟨hk _ _ d1 d4 d5 r1, b3, b4, .inr ⟨T, true, oT, b1, hk _ _ z3 z4 z5 z2, z3, z4, z5, z6⟩⟩
              fun c o hc e => hk c o (fun x => hc (by simp [x])) (fun x => hc (by simp [x])) (fun x => hc (by simp [x])) e
        done := fun s1 Q1 E1 ⟨r1, r2, r3, r4⟩ hQ => by
          have le1 : min xs.size ys.size ≤ xs.size := by omega
          have le2 : min xs.size ys.size ≤ ys.size := by omega
          have fin : min xs.size ys.size = xs.size ∨ min xs.size ys.size = ys.size := by omega
          rcases r4 with ⟨z1, a, b, z2⟩ | ⟨T, f, oT, z1, z2, z3, z4, z5, z6⟩
          · exact wpAny_pyNext_zipD2_end S D1 D2 z1 r1 z2 r2 r3 le1 le2 fin fun h' tk hk => hQ h' tk fun c o hc e => hk c o (fun x => hc (by simp [x])) (fun x => hc (by simp [x])) (fun x => hc (by simp [x])) (fun x => hc (by simp [x])) e
          · exact nextEnd S D1 D2 z1 z2 r1 r2 r3 le1 le2 fin fun h' tk hk => hQ h' tk fun c o hc e => hk c o (fun x => hc (by simp [x])) (fun x => hc (by simp [x])) (fun x => hc (by simp [x])) e } }
end
section
variable {X : Cx}
/-- dict(zip(t, l)) -/
def tDictZip (K : PySem.W.Frag) (ta : TA) : TE := fun σ H Q => ta σ H fun vs H1 => ∃ (t l : Addr) (ks : List PySem.Str) (us : List V), vs = [.ref t, .ref l] ∧ SqT K H1 t (ks.map V.str) ∧ SqL K H1 l us ∧ ks.length = us.length ∧ ks.Nodup ∧ ks.length ≤ 1000 ∧
  ∀ d, H1 d = none → Q (.ref d) (upd H1 d (.dK ((ks.zip us).map fun p => (Sum.inr p.1, p.2))))
theorem kvZip : ∀ {ks : List PySem.Str} {us : List V} {its : List Value}, Vals us its → KV ((ks.zip us).map fun p => (Sum.inr (α := Int) p.1, p.2)) ((ks.zip its).map fun p => (Sum.inr (α := Int) p.1, p.2))
  | [], _, _, _ => .nil
  | _ :: _, _, _, .nil => .nil
  | _ :: _, _, _, .cons r t => .cons ⟨rfl, r⟩ (kvZip t)
theorem strAt {ks : List PySem.Str} {its : List Value} (rv : Vals (ks.map V.str) its) {i : Nat} {u : Value} (h : its[i]? = some u) : ∃ k t, ks[i]? = some k ∧ u = .str k t := by
  induction ks generalizing its i with
  | nil =>
    cases rv
    simp at h
  | cons k ks ih =>
    cases rv with
    | cons r t =>
      cases i with
      | zero =>
        have e := Option.some.inj h
        subst e
        obtain ⟨tk, e⟩ := r
        exact ⟨k, tk, rfl, e⟩
      | succ i => exact ih t h
theorem pe_dictZip {a b : Expr} {ta : TA} {p p2 q pos : Pos} (hg : Gl X "dict") (md : X.mg "dict" = none) (hg2 : Gl X "zip") (mz : X.mg "zip" = none) (ha : PA X [a, b] ta) (quiet : X.calm = true := by rfl)
    (he : starEach [a, b] X.env = (false, eval a X.env) :: starEach [b] X.env := by rfl) (hpl : (backTo q (starEach [b] X.env)).any (·.1) = false := by rfl) : PE X (.Call (.Name "dict" p) [.Call (.Name "zip" p2) [a, b] [] q] [] pos) (tDictZip X.K ta) := by
  refine ⟨fun pins s σ H Q I h => Call_ (ld_blt I hg md boot_dict (callWith_type1 (args_cons (Call_ (ld_blt I hg2 mz boot_zip ?_)) rfl) rfl rfl))⟩
  refine callWith_type1 (thn (ha.run q pins s σ H _ I h) fun us s1 ⟨vs, H1, I1, r1, t, l, ks, ws, e, ht, hl, len, nd, few, fin⟩ => ?_) he hpl
  subst e
  obtain ⟨u1, u2, rfl, ru1, ru2⟩ := vals2 r1
  obtain rfl : u1 = Value.ref t := ru1
  obtain rfl : u2 = Value.ref l := ru2
  obtain ⟨its, rv, tup, _⟩ := I1.tuple ht
  obtain ⟨its2, rv2, lis, _⟩ := I1.list hl
  refine zip_begins2 (begins_tuple t its.toArray) (begins_list l its2.toArray) tup lis.isList fun h' z1 z2 z3 z4 z5 z6 hk => args_nil ?_
  have lt1 : @LT.lt Nat _ t s1.heap.objs.size := by obtain ⟨_, e, _⟩ := tup; exact Heap.lt_size e
  have lt2 : @LT.lt Nat _ l s1.heap.objs.size := by obtain ⟨_, e, _⟩ := lis.isList; exact Heap.lt_size e
  have n1 : its.length = ks.length := by rw [← rv.length, List.length_map]
  have n2 : its2.length = ks.length := by rw [← rv2.length, len]
  have ap : ∀ {a b : Nat}, a < b ∨ b < a → (a : Addr) ≠ (b : Addr) := fun h e => by
    have e' : _ = _ := e
    rcases h with h | h <;> (rw [e'] at h; exact Nat.lt_irrefl _ h)
  have P := tlArg (prog := X.prog) (w := X.w) (z := s1.heap.objs.size + 4) (TI := s1.heap.objs.size + 2) (TO := s1.heap.objs.size + 3) (i1 := s1.heap.objs.size) (i2 := s1.heap.objs.size + 1) (t := t) (l := l) its.toArray its2.toArray (ap (by omega)) (ap (by omega)) (ap (by omega)) (ap (by omega)) (ap (by omega)) (ap (by omega)) (ap (by omega)) (ap (by omega)) (ap (by omega)) (ap (by omega)) (ap (by omega)) (ap (by omega)) (ap (by omega)) (ap (by omega)) (ap (by omega)) (ap (by omega)) (ap (by omega)) (ap (by omega))
  have sz : min its.toArray.size its2.toArray.size = ks.length := by rw [List.size_toArray, List.size_toArray]; omega
  have hp : PairsHave (mixKind X.prog X.w) (min its.toArray.size its2.toArray.size) (fun i k v => its.toArray[i]? = some k ∧ its2.toArray[i]? = some v) ((ks.zip its2).map fun p => (Sum.inr (α := Int) p.1, p.2)) := by
    refine ⟨by rw [sz, List.length_map, List.length_zip]; omega, fun i key v ⟨q1, q2⟩ => ?_⟩
    rw [List.getElem?_toArray] at q1 q2
    obtain ⟨k, tk, hk', rfl⟩ := strAt rv q1
    refine ⟨Sum.inr k, ?_, mixKind_str _ _ _ _⟩
    have e2 : (ks.zip its2)[i]? = some (k, v) := List.getElem?_zip_eq_some.mpr ⟨hk', q2⟩
    rw [List.getElem?_map, e2]
    rfl
  have hs : sizeLine = 16777216 := by decide
  have tupT : s1.heap.IsTuple t its.toArray := tup
  refine PySem.call_dict_pairs P (I1.ok.hd quiet) ⟨z1, z2, ⟨_, _, z3⟩, ⟨⟨_, z4, rfl, rfl⟩, tupT.at fun o e => hk _ o e⟩, ⟨_, z5, rfl, rfl⟩, lis.isList.at fun o e => hk _ o e⟩ hp (by rw [sz]; omega) fun h2 tk hd hk2 => ?_
  have ndk : (((ks.zip its2).map fun p => (Sum.inr (α := Int) p.1, p.2)).map (·.1)).Nodup := by
    rw [List.map_map]
    have : ((fun x : Key × Value => x.1) ∘ fun p : PySem.Str × Value => (Sum.inr (α := Int) p.1, p.2)) = (fun s => Sum.inr s) ∘ Prod.fst := rfl
    rw [this, ← List.map_map, List.map_fst_zip (by omega)]
    exact List.Pairwise.map _ (fun a b ne e => ne (Sum.inr.inj e)) nd
  rw [merged_nil_of_nodup _ ndk, z6] at hd
  have up : ∀ b u, s1.heap.get? b = some u → h2.get? b = some u := fun b u e => by
    have lt : @LT.lt Nat _ b s1.heap.objs.size := Heap.lt_size e
    refine hk2 b u (fun m => ?_) (hk b u e)
    simp only [List.mem_cons, List.not_mem_nil, or_false] at m
    rcases m with m | m | m | m <;> exact absurd m (ap (by omega))
  have big : @LT.lt Nat _ sysModules s1.heap.objs.size := I1.big
  refine ⟨.ref (s1.heap.objs.size + 5), _, I1.laid (t' := tk) up (by omega) (dk_new (vs := (ks.zip its2).map fun p => (Sum.inr (α := Int) p.1, p.2)) ?_ ?_ (kvZip rv2) hd), by rw [z6]; rfl, fin _ (I1.hok.fresh (by omega))⟩
  · rw [List.length_map, List.length_zip]
    omega
  · exact beq_eq_false_iff_ne.mpr (ap (by omega))
end
end SH

set_option Elab.async false
set_option linter.all false
set_option maxRecDepth 100000
namespace SH
open PySem L2
/-! ### rows one by one, and places in a code -/
def Rs.isN : Rs → Bool
  | .nil => true
  | _ => false
theorem isN_iff {H : Hp} : ∀ {r : Rs} {xs : List V}, RsIn H r xs → (r.isN = true ↔ xs = [])
  | .nil, _, h => by cases h; exact ⟨fun _ => rfl, fun _ => rfl⟩
  | .put _ _ _, _, ⟨a, v, r, e, _⟩ => by cases e; exact ⟨fun z => (by cases z), fun z => (by cases z)⟩
  | .go _ _ _ _ _, _, ⟨a, p, ws, r, e, _⟩ => by cases e; exact ⟨fun z => (by cases z), fun z => (by cases z)⟩
  | .wait _ _ _ _, _, ⟨a, v, r, e, _⟩ => by cases e; exact ⟨fun z => (by cases z), fun z => (by cases z)⟩
  | .iff _ _ _ _, _, ⟨a, v, p, xs, p', ys, r, e, _⟩ => by cases e; exact ⟨fun z => (by cases z), fun z => (by cases z)⟩
  | .give _ _ _, _, ⟨a, v, r, e, _⟩ => by cases e; exact ⟨fun z => (by cases z), fun z => (by cases z)⟩
theorem Rs.isN_nil {r : Rs} (h : r.isN = true) : r = .nil := by cases r <;> first | rfl | cases h
/-- an if's code, from its parts' -/
inductive Rw where
  | put (x : Str) (e : Ex)
  | go (w : Bool) (x f : Str) (es : List Ex)
  | wait (x y : Str) (oe : Option Ex)
  | give (w : Bool) (e : Ex)
  | iff (e : Ex) (a b : Rs)
/-- the next row of what is left, and what is left then -/
def nxt : List Rs → Rw × List Rs
  | [] => (.give false (.num 0), [])
  | .nil :: ks => nxt ks
  | .put x e t :: ks => (.put x e, t :: ks)
  | .go w x f es t :: ks => (.go w x f es, t :: ks)
  | .wait x y oe t :: ks => (.wait x y oe, t :: ks)
  | .iff e a b t :: ks => (.iff e a b, t :: ks)
  | .give w e t :: ks => (.give w e, t :: ks)
inductive Cr where
  | put (x : Str) (e : Ex)
  | go (w : Bool) (x f : Str) (es : List Ex)
  | wait (x y : Str) (oe : Option Ex)
  | give (w : Bool) (e : Ex)
  | iff (e : Ex) (p : Nat)
  | jump (p : Nat)
def ifCr (e : Ex) (A : List Cr) (none : Bool) (B : List Cr) (p : Nat) : List Cr :=
  if none = true then .iff e (p + 1 + A.length) :: A else .iff e (p + 2 + A.length) :: (A ++ .jump (p + 2 + A.length + B.length) :: B)
def Rs.cr : Rs → Nat → List Cr
  | .nil, _ => []
  | .put x e t, p => .put x e :: t.cr (p + 1)
  | .go w x f es t, p => .go w x f es :: t.cr (p + 1)
  | .wait x y oe t, p => .wait x y oe :: t.cr (p + 1)
  | .give w e t, p => .give w e :: t.cr (p + 1)
  | .iff e a b t, p => ifCr e (a.cr (p + 1)) b.isN (b.cr (p + 2 + (a.cr (p + 1)).length)) p ++ t.cr (p + (ifCr e (a.cr (p + 1)) b.isN (b.cr (p + 2 + (a.cr (p + 1)).length)) p).length)
def wcr (rs : Rs) : List Cr := rs.cr 0 ++ [.give false (.num 0)]
/-- from a place on, a code does what is left of the rows -/
inductive Cont (cd : List Cr) : List Rs → Nat → Prop
  | fin {q : Nat} : cd[q]? = some (.give false (.num 0)) → Cont cd [] q
  | jmp {ks : List Rs} {q p : Nat} : cd[q]? = some (.jump p) → Cont cd ks p → Cont cd ks q
  | blk {r : Rs} {ks : List Rs} {q : Nat} : (∀ i c, (r.cr q)[i]? = some c → cd[q + i]? = some c) → Cont cd ks (q + (r.cr q).length) → Cont cd (r :: ks) q
theorem cont_start (rs : Rs) : Cont (wcr rs) [rs] 0 := by
  refine .blk (fun i c h => ?_) (.fin ?_)
  · unfold wcr
    rw [Nat.zero_add, List.getElem?_append_left (List.getElem?_eq_some_iff.mp h).1]
    exact h
  · unfold wcr
    rw [Nat.zero_add, List.getElem?_append_right (Nat.le_refl _), Nat.sub_self]
    rfl
/-- jumps from one place to another, where there is none -/
inductive JmpC (cd : List Cr) : Nat → Nat → Nat → Prop
  | stop {q : Nat} {c : Cr} : cd[q]? = some c → (∀ p, c ≠ .jump p) → JmpC cd 0 q q
  | go {n q p q' : Nat} : cd[q]? = some (.jump p) → JmpC cd n p q' → JmpC cd (n + 1) q q'
/-- what stands at a place is the next row of what is left -/
def RowIs (cd : List Cr) (q : Nat) : Rw × List Rs → Prop
  | (.put x e, ks) => cd[q]? = some (.put x e) ∧ Cont cd ks (q + 1)
  | (.go w x f es, ks) => cd[q]? = some (.go w x f es) ∧ Cont cd ks (q + 1)
  | (.wait x y oe, ks) => cd[q]? = some (.wait x y oe) ∧ Cont cd ks (q + 1)
  | (.give w e, _) => cd[q]? = some (.give w e)
  | (.iff e a b, ks) => ∃ p, cd[q]? = some (.iff e p) ∧ Cont cd (a :: ks) (q + 1) ∧ Cont cd (b :: ks) p
theorem seg_tail {cd : List Cr} {c0 : Cr} {l : List Cr} {q : Nat} (h : ∀ i c, (c0 :: l)[i]? = some c → cd[q + i]? = some c) : cd[q]? = some c0 ∧ ∀ i c, l[i]? = some c → cd[q + 1 + i]? = some c :=
  ⟨by have := h 0 c0 rfl; rwa [Nat.add_zero] at this, fun i c e => by have := h (i + 1) c e; rwa [show q + (i + 1) = q + 1 + i by omega] at this⟩
theorem seg_left {cd l1 l2 : List Cr} {q : Nat} (h : ∀ i c, (l1 ++ l2)[i]? = some c → cd[q + i]? = some c) : (∀ i c, l1[i]? = some c → cd[q + i]? = some c) ∧ ∀ i c, l2[i]? = some c → cd[q + l1.length + i]? = some c :=
  ⟨fun i c e => h i c (by rw [List.getElem?_append_left (List.getElem?_eq_some_iff.mp e).1]; exact e), fun i c e => by
    have := h (l1.length + i) c (by rw [List.getElem?_append_right (by omega), show l1.length + i - l1.length = i by omega]; exact e)
    rwa [← Nat.add_assoc] at this⟩
theorem cont_next {cd : List Cr} : ∀ {ks : List Rs} {q : Nat}, Cont cd ks q → ∃ n q', JmpC cd n q q' ∧ RowIs cd q' (nxt ks) := by
  intro ks q h
  induction h with
  | fin e => exact ⟨0, _, .stop e (fun p z => by cases z), e⟩
  | jmp e _ ih =>
    obtain ⟨n, q', j, r⟩ := ih
    exact ⟨n + 1, q', .go e j, r⟩
  | @blk r ks q seg c ih =>
    cases r with
    | nil =>
      obtain ⟨n, q', j, r⟩ := ih
      exact ⟨n, q', j, r⟩
    | put x e t =>
      obtain ⟨h0, h1⟩ := seg_tail seg
      exact ⟨0, q, .stop h0 (fun p z => by cases z), h0, .blk h1 (by rw [show q + 1 + (t.cr (q + 1)).length = q + (Rs.cr (.put x e t) q).length by show _ = q + ((t.cr (q + 1)).length + 1); omega]; exact c)⟩
    | go w x f es t =>
      obtain ⟨h0, h1⟩ := seg_tail seg
      exact ⟨0, q, .stop h0 (fun p z => by cases z), h0, .blk h1 (by rw [show q + 1 + (t.cr (q + 1)).length = q + (Rs.cr (.go w x f es t) q).length by show _ = q + ((t.cr (q + 1)).length + 1); omega]; exact c)⟩
    | wait x y oe t =>
      obtain ⟨h0, h1⟩ := seg_tail seg
      exact ⟨0, q, .stop h0 (fun p z => by cases z), h0, .blk h1 (by rw [show q + 1 + (t.cr (q + 1)).length = q + (Rs.cr (.wait x y oe t) q).length by show _ = q + ((t.cr (q + 1)).length + 1); omega]; exact c)⟩
    | give w e t =>
      obtain ⟨h0, h1⟩ := seg_tail seg
      exact ⟨0, q, .stop h0 (fun p z => by cases z), h0⟩
    | iff e a b t =>
      obtain ⟨s1, s2⟩ := seg_left (l1 := ifCr e (a.cr (q + 1)) b.isN (b.cr (q + 2 + (a.cr (q + 1)).length)) q) seg
      have ct : Cont cd (t :: ks) (q + (ifCr e (a.cr (q + 1)) b.isN (b.cr (q + 2 + (a.cr (q + 1)).length)) q).length) := by
        refine .blk s2 ?_
        have : q + (Rs.cr (.iff e a b t) q).length = q + (ifCr e (a.cr (q + 1)) b.isN (b.cr (q + 2 + (a.cr (q + 1)).length)) q).length + (t.cr (q + (ifCr e (a.cr (q + 1)) b.isN (b.cr (q + 2 + (a.cr (q + 1)).length)) q).length)).length := by
          show q + List.length (ifCr e (a.cr (q + 1)) b.isN (b.cr (q + 2 + (a.cr (q + 1)).length)) q ++ t.cr (q + (ifCr e (a.cr (q + 1)) b.isN (b.cr (q + 2 + (a.cr (q + 1)).length)) q).length)) = _
          rw [List.length_append]
          omega
        rw [← this]
        exact c
      cases hn : b.isN with
      | true =>
        have eb := Rs.isN_nil hn
        subst eb
        have ei : ifCr e (a.cr (q + 1)) (Rs.isN .nil) (Rs.cr .nil (q + 2 + (a.cr (q + 1)).length)) q = .iff e (q + 1 + (a.cr (q + 1)).length) :: a.cr (q + 1) := if_pos rfl
        rw [ei] at s1 ct
        obtain ⟨h0, h1⟩ := seg_tail s1
        rw [show q + (Cr.iff e (q + 1 + (a.cr (q + 1)).length) :: a.cr (q + 1)).length = q + 1 + (a.cr (q + 1)).length by rw [List.length_cons]; omega] at ct
        exact ⟨0, q, .stop h0 (fun p z => by cases z), _, h0, .blk h1 ct, .blk (fun i c e => by simp [Rs.cr] at e) ct⟩
      | false =>
        rw [hn] at s1 ct
        have ei : ifCr e (a.cr (q + 1)) false (b.cr (q + 2 + (a.cr (q + 1)).length)) q = .iff e (q + 2 + (a.cr (q + 1)).length) :: (a.cr (q + 1) ++ .jump (q + 2 + (a.cr (q + 1)).length + (b.cr (q + 2 + (a.cr (q + 1)).length)).length) :: b.cr (q + 2 + (a.cr (q + 1)).length)) := if_neg Bool.false_ne_true
        rw [ei] at s1 ct
        obtain ⟨h0, h1⟩ := seg_tail s1
        obtain ⟨h2, h3⟩ := seg_left h1
        obtain ⟨h4, h5⟩ := seg_tail h3
        rw [show q + (Cr.iff e (q + 2 + (a.cr (q + 1)).length) :: (a.cr (q + 1) ++ .jump (q + 2 + (a.cr (q + 1)).length + (b.cr (q + 2 + (a.cr (q + 1)).length)).length) :: b.cr (q + 2 + (a.cr (q + 1)).length))).length = q + 2 + (a.cr (q + 1)).length + (b.cr (q + 2 + (a.cr (q + 1)).length)).length by rw [List.length_cons, List.length_append, List.length_cons]; omega] at ct
        refine ⟨0, q, .stop h0 (fun p z => by cases z), _, h0, .blk h2 (.jmp h4 ct), .blk (fun i c e => ?_) ct⟩
        have := h5 i c e
        rwa [show q + 1 + (a.cr (q + 1)).length + 1 + i = q + 2 + (a.cr (q + 1)).length + i by omega] at this
end SH

set_option Elab.async false
set_option linter.all false
set_option maxRecDepth 100000
namespace SH
open PySem L2
abbrev sCodeOf : Stmt := topS 60
abbrev sRowsCode : Stmt := topS 61
abbrev sIfCode : Stmt := topS 62
theorem scCodeOf : FnScope ["work"] ["work"] (defScope sCodeOf) := ⟨rfl, rfl, rfl, by decide +kernel, rfl, by decide +kernel, by decide +kernel⟩
theorem scRowsCode : FnScope ["rows", "place", "code", "row", "behind"] ["rows", "place"] (defScope sRowsCode) := ⟨rfl, rfl, rfl, by decide +kernel, rfl, by decide +kernel, by decide +kernel⟩
theorem scIfCode : FnScope ["row", "place", "word", "condition", "first_rows", "second_rows", "first", "behind", "second"] ["row", "place"] (defScope sIfCode) := ⟨rfl, rfl, rfl, by decide +kernel, rfl, by decide +kernel, by decide +kernel⟩
/-- tuples stay -/
def Tups (H H' : Hp) : Prop := ∀ a us, H a = some (.tup us) → H' a = some (.tup us)
theorem Same.tups {H H' : Hp} (s : Same H H') : Tups H H' := fun _ _ e => s _ _ e
theorem Tups.lst {H : Hp} {b : Addr} {ys zs : List V} (hb : H b = some (.lst ys)) : Tups H (upd H b (.lst zs)) := fun a us e => by
  rw [upd_ne (fun z => by rw [z, hb] at e; cases e)]
  exact e
theorem TrIn.tups {H H' : Hp} (h : Tups H H') : ∀ {e : Ex} {v : V}, TrIn H e v → TrIn H' e v
  | .num _, _, ⟨a, e, k⟩ => ⟨a, e, h _ _ k⟩
  | .nam _, _, ⟨a, e, k⟩ => ⟨a, e, h _ _ k⟩
  | .op _ _ _, _, ⟨a, x, y, e, k, l, r⟩ => ⟨a, x, y, e, h _ _ k, TrIn.tups h l, TrIn.tups h r⟩
theorem TrsIn.tups {H H' : Hp} (h : Tups H H') : ∀ {es : List Ex} {vs : List V}, TrsIn H es vs → TrsIn H' es vs
  | [], _, e => e
  | _ :: _, _, ⟨v, r, e, a, b⟩ => ⟨v, r, e, a.tups h, TrsIn.tups h b⟩
theorem OptIn.tups {H H' : Hp} (h : Tups H H') : ∀ {oe : Option Ex} {v : V}, OptIn H oe v → OptIn H' oe v
  | none, _, e => e
  | some _, _, e => TrIn.tups h e
def CrIn (H : Hp) : Cr → V → Prop
  | .put x e, v => ∃ a u, v = .ref a ∧ H a = some (.tup [.str "put", .str x, u]) ∧ TrIn H e u
  | .go w x f es, v => ∃ a p ws, v = .ref a ∧ H a = some (.tup [.str (goW w), .str x, .str f, .ref p]) ∧ H p = some (.tup ws) ∧ TrsIn H es ws
  | .wait x y oe, v => ∃ a u, v = .ref a ∧ H a = some (.tup [.str "wait", .str x, .str y, u]) ∧ OptIn H oe u
  | .give w e, v => ∃ a u, v = .ref a ∧ H a = some (.tup [.str (giveW w), u]) ∧ TrIn H e u
  | .iff e p, v => ∃ a u, v = .ref a ∧ H a = some (.tup [.str "if", u, .int (p : Int)]) ∧ TrIn H e u
  | .jump p, v => ∃ a, v = .ref a ∧ H a = some (.tup [.str "jump", .int (p : Int)])
theorem CrIn.tups {H H' : Hp} (h : Tups H H') : ∀ {c : Cr} {v : V}, CrIn H c v → CrIn H' c v
  | .put _ _, _, ⟨a, u, e, k, t⟩ => ⟨a, u, e, h _ _ k, t.tups h⟩
  | .go _ _ _ _, _, ⟨a, p, ws, e, k, kp, t⟩ => ⟨a, p, ws, e, h _ _ k, h _ _ kp, t.tups h⟩
  | .wait _ _ _, _, ⟨a, u, e, k, t⟩ => ⟨a, u, e, h _ _ k, t.tups h⟩
  | .give _ _, _, ⟨a, u, e, k, t⟩ => ⟨a, u, e, h _ _ k, t.tups h⟩
  | .iff _ _, _, ⟨a, u, e, k, t⟩ => ⟨a, u, e, h _ _ k, t.tups h⟩
  | .jump _, _, ⟨a, e, k⟩ => ⟨a, e, h _ _ k⟩
def CrsIn (H : Hp) : List Cr → List V → Prop
  | [], vs => vs = []
  | c :: cs, vs => ∃ v r, vs = v :: r ∧ CrIn H c v ∧ CrsIn H cs r
theorem CrsIn.tups {H H' : Hp} (h : Tups H H') : ∀ {cs : List Cr} {vs : List V}, CrsIn H cs vs → CrsIn H' cs vs
  | [], _, e => e
  | _ :: _, _, ⟨v, r, e, a, b⟩ => ⟨v, r, e, a.tups h, CrsIn.tups h b⟩
theorem CrsIn.same {H H' : Hp} (h : Same H H') {cs : List Cr} {vs : List V} (k : CrsIn H cs vs) : CrsIn H' cs vs := k.tups (Same.tups h)
theorem CrsIn.len {H : Hp} : ∀ {cs : List Cr} {vs : List V}, CrsIn H cs vs → vs.length = cs.length
  | [], _, e => by cases e; rfl
  | _ :: _, _, ⟨v, r, e, a, b⟩ => by rw [e, List.length_cons, List.length_cons, CrsIn.len b]
theorem CrsIn.app {H : Hp} : ∀ {cs ds : List Cr} {vs ws : List V}, CrsIn H cs vs → CrsIn H ds ws → CrsIn H (cs ++ ds) (vs ++ ws)
  | [], _, _, _, e, k => by cases e; exact k
  | _ :: _, _, _, _, ⟨v, r, e, a, b⟩, k => by rw [e]; exact ⟨v, _, rfl, a, CrsIn.app b k⟩
theorem CrsIn.at_ {H : Hp} : ∀ {cs : List Cr} {vs : List V} {i : Nat} {c : Cr}, CrsIn H cs vs → cs[i]? = some c → ∃ v, vs[i]? = some v ∧ CrIn H c v
  | [], _, _, _, _, k => by simp at k
  | _ :: _, _, 0, c, ⟨v, r, e, a, b⟩, k => by cases k; rw [e]; exact ⟨v, rfl, a⟩
  | _ :: _, _, i + 1, c, ⟨v, r, e, a, b⟩, k => by rw [e]; exact CrsIn.at_ (i := i) b k
theorem CrsIn.one {H : Hp} {c : Cr} {v : V} (h : CrIn H c v) : CrsIn H [c] [v] := ⟨v, [], rfl, h, rfl⟩
def Rs.hdCr : Rs → Nat → List Cr
  | .nil, _ => []
  | .put x e _, _ => [.put x e]
  | .go w x f es _, _ => [.go w x f es]
  | .wait x y oe _, _ => [.wait x y oe]
  | .give w e _, _ => [.give w e]
  | .iff e a b _, p => ifCr e (a.cr (p + 1)) b.isN (b.cr (p + 2 + (a.cr (p + 1)).length)) p
theorem Rs.cr_eq (r : Rs) (p : Nat) : r.cr p = r.hdCr p ++ r.tl.cr (p + (r.hdCr p).length) := by cases r <;> rfl
theorem ifCr_len (e : Ex) (A : List Cr) (n : Bool) (B : List Cr) (p : Nat) : (ifCr e A n B p).length ≤ 2 + A.length + B.length := by
  unfold ifCr
  cases n
  · rw [if_neg Bool.false_ne_true, List.length_cons, List.length_append, List.length_cons]
    omega
  · rw [if_pos rfl, List.length_cons]
    omega
theorem Rs.cr_len : ∀ (r : Rs) (p : Nat), (r.cr p).length ≤ 2 * r.count
  | .nil, _ => Nat.zero_le _
  | .put _ _ t, p => by have := Rs.cr_len t (p + 1); show (t.cr (p + 1)).length + 1 ≤ 2 * (1 + t.count); omega
  | .go _ _ _ _ t, p => by have := Rs.cr_len t (p + 1); show (t.cr (p + 1)).length + 1 ≤ 2 * (1 + t.count); omega
  | .wait _ _ _ t, p => by have := Rs.cr_len t (p + 1); show (t.cr (p + 1)).length + 1 ≤ 2 * (1 + t.count); omega
  | .give _ _ t, p => by have := Rs.cr_len t (p + 1); show (t.cr (p + 1)).length + 1 ≤ 2 * (1 + t.count); omega
  | .iff e a b t, p => by
    have h1 := Rs.cr_len a (p + 1)
    have h2 := Rs.cr_len b (p + 2 + (a.cr (p + 1)).length)
    have h3 := Rs.cr_len t (p + (ifCr e (a.cr (p + 1)) b.isN (b.cr (p + 2 + (a.cr (p + 1)).length)) p).length)
    have h4 := ifCr_len e (a.cr (p + 1)) b.isN (b.cr (p + 2 + (a.cr (p + 1)).length)) p
    show (ifCr e (a.cr (p + 1)) b.isN (b.cr (p + 2 + (a.cr (p + 1)).length)) p ++ t.cr (p + (ifCr e (a.cr (p + 1)) b.isN (b.cr (p + 2 + (a.cr (p + 1)).length)) p).length)).length ≤ 2 * (1 + a.count + b.count + t.count)
    rw [List.length_append]
    omega
theorem Rs.hdCr_len (r : Rs) (p : Nat) : (r.hdCr p).length ≤ 2 * r.rc := by
  cases r with
  | iff e a b t =>
    have h1 := Rs.cr_len a (p + 1)
    have h2 := Rs.cr_len b (p + 2 + (a.cr (p + 1)).length)
    have h4 := ifCr_len e (a.cr (p + 1)) b.isN (b.cr (p + 2 + (a.cr (p + 1)).length)) p
    show (ifCr e (a.cr (p + 1)) b.isN (b.cr (p + 2 + (a.cr (p + 1)).length)) p).length ≤ 2 * (1 + a.count + b.count)
    omega
  | nil => exact Nat.zero_le _
  | _ => exact (by decide : 1 ≤ 2 * 1)
def spRowsCode (n : Nat) : Sp := fun vs H Q _ => ∃ (p : Addr) (xs : List V) (rs : Rs) (pl : Nat), vs = [.ref p, .int pl] ∧ H p = some (.tup xs) ∧ RsIn H rs xs ∧ Rs.ok n rs ∧ rs.count ≤ 40 ∧ pl + 2 * rs.count ≤ 1000 ∧
  ∀ (l : Addr) (us : List V) (H' : Hp), Same H H' → H l = none → H' l = some (.lst us) → CrsIn H' (rs.cr pl) us → Q (.ref l) H'
def spIfCode (n : Nat) : Sp := fun vs H Q _ => ∃ (v : V) (rs : Rs) (r : List V) (pl : Nat), vs = [v, .int pl] ∧ RsIn H rs (v :: r) ∧ Rs.ok n rs ∧ rs.isIf = true ∧ rs.count ≤ 40 ∧ pl + 2 * rs.count ≤ 1000 ∧
  ∀ (l : Addr) (us : List V) (H' : Hp), Same H H' → H l = none → H' l = some (.lst us) → CrsIn H' (rs.hdCr pl) us → Q (.ref l) H'
def spCodeOf : Sp := fun vs H Q _ => ∃ (v : V) (W : Wk) (n : Nat), n ≤ 3 ∧ vs = [v] ∧ WkIn H W v ∧ Rs.ok n W.rows ∧ W.rows.count ≤ 40 ∧
  ∀ (l : Addr) (us : List V) (H' : Hp), Same H H' → H l = none → H' l = some (.lst us) → CrsIn H' (wcr W.rows) us → Q (.ref l) H'
/-- a row that is no if: its word, and what it is -/
theorem plain_row {H : Hp} {rs : Rs} {v : V} {r : List V} (h : RsIn H rs (v :: r)) (k : rs.isIf = false) : ∃ (a : Addr) (z : Str) (us : List V) (c : Cr), v = .ref a ∧ H a = some (.tup (.str z :: us)) ∧ z ≠ "if" ∧ CrIn H c v ∧ ∀ p, rs.hdCr p = [c] := by
  cases rs with
  | nil => cases h
  | put x e t =>
    obtain ⟨a, u, r', e1, ha, te, _⟩ := h
    cases e1
    exact ⟨a, _, _, (.put x e), rfl, ha, by decide, ⟨a, u, rfl, ha, te⟩, fun _ => rfl⟩
  | go w x f es t =>
    obtain ⟨a, p, ws, r', e1, ha, hp, te, _⟩ := h
    cases e1
    exact ⟨a, _, _, (.go w x f es), rfl, ha, by cases w <;> decide, ⟨a, p, ws, rfl, ha, hp, te⟩, fun _ => rfl⟩
  | wait x y oe t =>
    obtain ⟨a, u, r', e1, ha, te, _⟩ := h
    cases e1
    exact ⟨a, _, _, (.wait x y oe), rfl, ha, by decide, ⟨a, u, rfl, ha, te⟩, fun _ => rfl⟩
  | give w e t =>
    obtain ⟨a, u, r', e1, ha, te, _⟩ := h
    cases e1
    exact ⟨a, _, _, (.give w e), rfl, ha, by cases w <;> decide, ⟨a, u, rfl, ha, te⟩, fun _ => rfl⟩
  | iff e a b t => cases k
theorem if_row {H : Hp} {rs : Rs} {v : V} {r : List V} (h : RsIn H rs (v :: r)) (k : rs.isIf = true) : ∃ (a : Addr) (us : List V), v = .ref a ∧ H a = some (.tup (.str "if" :: us)) := by
  cases rs with
  | iff e A B t =>
    obtain ⟨a, u, p, xs, p', ys, r', e1, ha, _⟩ := h
    cases e1
    exact ⟨a, _, rfl, ha⟩
  | nil => cases h
  | _ => cases k
theorem Rs.ok_up : ∀ {r : Rs} {n m : Nat}, n ≤ m → Rs.ok n r → Rs.ok m r
  | .nil, _, _, _, _ => trivial
  | .put _ _ t, _, _, k, h => ⟨h.1, h.2.1, Rs.ok_up k h.2.2⟩
  | .go _ _ _ _ t, _, _, k, h => ⟨h.1, h.2.1, h.2.2.1, h.2.2.2.1, Rs.ok_up k h.2.2.2.2⟩
  | .wait _ _ _ t, _, _, k, h => ⟨h.1, h.2.1, h.2.2.1, Rs.ok_up k h.2.2.2⟩
  | .iff _ a b t, _, _, k, h => ⟨Nat.le_trans h.1 k, h.2.1, Rs.ok_up (by omega) h.2.2.1, Rs.ok_up (by omega) h.2.2.2.1, Rs.ok_up k h.2.2.2.2⟩
  | .give _ _ t, _, _, k, h => ⟨h.1, Rs.ok_up k h.2⟩
section
variable {P : Program} {w : World} {K : PySem.W.Frag} {mg : Str → Option Value} {base : Heap}
theorem ok_rowsCode {n k : Nat} {f i : Addr} {fd idd : FuncData} (F : Fun K "rows_code" "rows_code" sRowsCode f fd) (IC : Fk P w K mg base k "if_code" i idd ["row", "place"] (spIfCode n)) (T : Bi mg) : FnOk P w K mg base CX0 (k + 1) f fd ["rows", "place"] (spRowsCode n) := by
  refine F.ok scRowsCode (fun vs H Q E h => ?_) (fun cdv A outer s H vs Q E hr h => ?_)
  · obtain ⟨p, xs, rs, pl, rfl, _⟩ := h
    rfl
  obtain ⟨p, xs, rs, pl, rfl, hp, hR, hok, hc, hpl, q⟩ := h
  refine ⟨_, (pss_cons (ps_set (i := 2) scRowsCode.nd rfl (Or.inl rfl) (pe_lst pa_nil))
    (pss_cons (ps_for PassesOwn.never rfl (pi_tup (pv 0)) (pg_name (i := 3) scRowsCode.nd rfl (.inl rfl))
      (pss_cons (ps_set (i := 4) scRowsCode.nd rfl (Or.inl rfl) (pe_op op_add (pv 1) (pe_callB call_len_seq (by rfl) T.len (by decide +kernel) (pa_cons (pv 2) pa_nil))))
    (pss_one (ps_expr (pe_bm PySem.F.plainAttrs_list PySem.F.slot_list_extend PySem.F.type_list_extend mt_extend (pv 2) (pa_cons (pe_ifExp (pt_cmpR op_eq (pe_ix ix_tup (pv 3) pe_int (fun _ _ => rfl)) pe_str (nomark _)) (pe_call IC.G hr (by rfl) IC.m IC.k IC.b .nil pass0 (pa_cons (pv 3) (pa_cons (pv 4) pa_nil))) (pe_lst (pa_cons (pv 3) pa_nil))) pa_nil))))))
    (pss_one (ps_ret (pv 2))))), ?_⟩
  have hs : sizeLine = 16777216 := by decide
  refine ⟨Nat.zero_le _, fun l hl => ?_⟩
  refine ⟨_, rfl, p, rfl, ⟨_, SqT.of ((same_new hl _) _ _ hp)⟩, ?_⟩
  refine for_tup (K := K) (a := p) (xs := xs) (fun i σ H' => ∃ (rs' : Rs) (done : List Cr) (us : List V) (y z : Option V), σ = [some (.ref p), some (.int pl), some (.ref l), y, z] ∧ RsIn H' rs' (xs.drop i) ∧ Rs.ok n rs' ∧ done.length + 2 * rs'.count ≤ 2 * rs.count ∧ done ++ rs'.cr (pl + done.length) = rs.cr pl ∧ H' l = some (.lst us) ∧ CrsIn H' done us ∧ Same H H') ?_ ?_ ?_ ?_
  · exact ⟨rs, [], [], none, none, rfl, hR.same (same_new hl _), hok, by show 0 + _ ≤ _; omega, rfl, upd_same, rfl, same_new hl _⟩
  · rintro i σ H' _ ⟨_, _, _, _, _, _, _, _, _, _, _, _, s'⟩
    exact SqT.of (s' _ _ hp)
  · rintro i v σ H1 hv ⟨rs', done, us, y, z, rfl, hR', ok', hc', hd', hl1, hdp, s1⟩
    have hdr : xs.drop i = v :: xs.drop (i + 1) := by
      obtain ⟨hi, e⟩ := List.getElem?_eq_some_iff.mp hv
      rw [List.drop_eq_getElem_cons hi, e]
    rw [hdr] at hR'
    have ce := rs'.count_eq
    have hh := rs'.hdCr_len (pl + done.length)
    have ul := CrsIn.len hdp
    refine ⟨_, rfl, _, rfl, l, us, rfl, .inl (SqL.of hl1), _, _, rfl, rfl, ?_⟩
    have ep : (pl : Int) + ((us.length : Nat) : Int) = ((pl + done.length : Nat) : Int) := by rw [ul]; omega
    refine ⟨_, rfl, .inl ⟨rfl, _, SqL.of hl1⟩, ?_⟩
    have fin : ∀ (l2 : Addr) (us2 : List V) (H2 : Hp), Same H1 H2 → H2 l2 = some (.lst us2) → CrsIn H2 (rs'.hdCr (pl + done.length)) us2 → us.length + us2.length ≤ sizeLine ∧ ∀ z0 : V,
        (∃ (rs' : Rs) (done : List Cr) (us' : List V) (y z : Option V), [some (V.ref p), some (V.int pl), some (V.ref l), some v, some z0] = [some (.ref p), some (.int pl), some (.ref l), y, z] ∧ RsIn (upd H2 l (.lst (us ++ us2))) rs' (xs.drop (i + 1)) ∧ Rs.ok n rs' ∧ done.length + 2 * rs'.count ≤ 2 * rs.count ∧ done ++ rs'.cr (pl + done.length) = rs.cr pl ∧ (upd H2 l (.lst (us ++ us2))) l = some (.lst us') ∧ CrsIn (upd H2 l (.lst (us ++ us2))) done us' ∧ Same H (upd H2 l (.lst (us ++ us2)))) := by
      intro l2 us2 H2 s2 h2 d2
      have hl2 := s2 _ _ hl1
      have u2 := CrsIn.len d2
      have kt : Tups H2 (upd H2 l (.lst (us ++ us2))) := Tups.lst hl2
      have e1 : rs'.cr (pl + done.length) = rs'.hdCr (pl + done.length) ++ rs'.tl.cr (pl + done.length + (rs'.hdCr (pl + done.length)).length) := Rs.cr_eq _ _
      refine ⟨by omega, fun z0 => ⟨rs'.tl, done ++ rs'.hdCr (pl + done.length), us ++ us2, _, _, rfl, RsIn.upd_lst hl2 (hR'.tl.same s2), Rs.ok_tl ok', ?_, ?_, upd_same, ?_, ?_⟩⟩
      · rw [List.length_append]; omega
      · rw [List.length_append, List.append_assoc, ← Nat.add_assoc, ← e1]; exact hd'
      · exact CrsIn.app ((hdp.same s2).tups kt) (d2.tups kt)
      · intro x o z
        rw [upd_ne (ne_of_none z hl)]
        exact s2 _ _ (s1 _ _ z)
    cases ki : rs'.isIf with
    | true =>
      obtain ⟨a, us0, rfl, ha⟩ := if_row hR' ki
      refine ⟨_, rfl, a, _, 0, _, rfl, rfl, SqT.of ha, atI_nat rfl, rfl, ?_⟩
      refine ⟨true, (by decide +kernel), ?_⟩
      refine ⟨_, rfl, _, rfl, V.ref a, rs', _, pl + done.length, (by show [V.ref a, V.int ((pl : Int) + ((us.length : Nat) : Int))] = _; rw [ep]), hR', ok', ki, by omega, by omega, fun l2 us2 H2 s2 nl2 h2 d2 => ?_⟩
      obtain ⟨f1, f2⟩ := fin l2 us2 H2 s2 h2 d2
      exact ⟨l, l2, _, _, rfl, rfl, s2 _ _ hl1, h2, f1, f2 _⟩
    | false =>
      obtain ⟨a, z0, us0, d0, rfl, ha, hz, hd0, he0⟩ := plain_row hR' ki
      refine ⟨_, rfl, a, _, 0, _, rfl, rfl, SqT.of ha, atI_nat rfl, rfl, false, ?_, ?_⟩
      · show V.bl (decide (V.str z0 = V.str "if")) = V.bl false
        rw [decide_eq_false (fun e => hz (V.str.inj e))]
      refine ⟨_, rfl, (by show 1 ≤ sizeLine; decide), fun l2 nl2 => ?_⟩
      have s2 := same_new nl2 (.lst [V.ref a])
      obtain ⟨f1, f2⟩ := fin l2 [V.ref a] _ s2 upd_same (by rw [he0]; exact CrsIn.one (hd0.tups (Same.tups s2)))
      exact ⟨l, l2, _, _, rfl, rfl, s2 _ _ hl1, upd_same, f1, f2 _⟩
  · rintro σ H1 ⟨rs', done, us, y, z, rfl, hR', ok', hc', hd', hl1, hdp, s1⟩
    rw [List.drop_length] at hR'
    have z' := Rs.isN_nil ((isN_iff hR').mpr rfl)
    subst z'
    have e : done = rs.cr pl := by rw [← hd']; exact (List.append_nil done).symm
    exact ⟨_, rfl, q l us H1 s1 hl hl1 (e ▸ hdp)⟩
theorem ok_ifCode {n k : Nat} {f i : Addr} {fd idd : FuncData} (F : Fun K "if_code" "if_code" sIfCode f fd) (RCs : 1 ≤ n → FnOk P w K mg base CX0 k i idd ["rows", "place"] (spRowsCode (n - 1))) (mR : mg "rows_code" = some (.ref i)) (kR : PySem.W.keepIn K (.ref i) = true) (bR : Binds K idd ["rows", "place"] []) (T : Bi mg) :
    FnOk P w K mg base CX0 (k + 1) f fd ["row", "place"] (spIfCode n) := by
  refine F.ok scIfCode (fun vs H Q E h => ?_) (fun cdv A outer s H vs Q E hr h => ?_)
  · obtain ⟨v, rs, r, pl, rfl, _⟩ := h
    rfl
  obtain ⟨v, rs, r, pl, rfl, hR, hok, hif, hc, hpl, q⟩ := h
  cases rs with
  | iff e A' B t =>
    have hn : 1 ≤ n := hok.1
    have RC : Fk P w K mg base k "rows_code" i idd ["rows", "place"] (spRowsCode (n - 1)) := ⟨RCs hn, mR, kR, bR⟩
    refine ⟨_, (pss_cons (ps_asg (pv 0) (pg_tup rfl (pgs_cons (pg_name (i := 2) scIfCode.nd rfl (.inl rfl)) (pgs_cons (pg_name (i := 3) scIfCode.nd rfl (.inl rfl)) (pgs_cons (pg_name (i := 4) scIfCode.nd rfl (.inl rfl)) (pgs_cons (pg_name (i := 5) scIfCode.nd rfl (.inl rfl)) pgs_nil))))))
    (pss_cons (ps_set (i := 6) scIfCode.nd rfl (Or.inl rfl) (pe_call RC.G hr (by rfl) RC.m RC.k RC.b .nil pass0 (pa_cons (pv 4) (pa_cons (pe_op op_add (pv 1) pe_int) pa_nil))))
    (pss_cons (ps_set (i := 7) scIfCode.nd rfl (Or.inl rfl) (pe_op op_add (pe_op op_add (pv 1) pe_int) (pe_callB call_len_seq (by rfl) T.len (by decide +kernel) (pa_cons (pv 6) pa_nil))))
    (pss_cons (ps_if (pt_not (pt_truth (pv 5) (fun _ => rfl)))
      (pss_one (ps_ret (pe_op op_cat (pe_lst (pa_cons (pe_tup (pa_cons (pv 2) (pa_cons (pv 3) (pa_cons (pv 7) pa_nil)))) pa_nil)) (pv 6))))
      pss_nil)
    (pss_cons (ps_aug (i := 7) scIfCode.nd rfl (Or.inl rfl) pe_int ip_add)
    (pss_cons (ps_set (i := 8) scIfCode.nd rfl (Or.inl rfl) (pe_call RC.G hr (by rfl) RC.m RC.k RC.b .nil pass0 (pa_cons (pv 5) (pa_cons (pv 7) pa_nil))))
    (pss_one (ps_ret (pe_op op_cat (pe_op op_cat (pe_op op_cat (pe_lst (pa_cons (pe_tup (pa_cons (pv 2) (pa_cons (pv 3) (pa_cons (pv 7) pa_nil)))) pa_nil)) (pv 6)) (pe_lst (pa_cons (pe_tup (pa_cons pe_str (pa_cons (pe_op op_add (pv 7) (pe_callB call_len_seq (by rfl) T.len (by decide +kernel) (pa_cons (pv 8) pa_nil))) pa_nil))) pa_nil))) (pv 8)))))))))), ?_⟩
    have hs : sizeLine = 16777216 := by decide
    obtain ⟨a, u, p, xs, p', ys, r', e1, ha, te, hp, hA, hp', hB, _⟩ := hR
    cases e1
    have ec : (Rs.iff e A' B t).count = 1 + A'.count + B.count + t.count := rfl
    have lA := A'.cr_len (pl + 1)
    have lB := B.cr_len (pl + 2 + (A'.cr (pl + 1)).length)
    have ed : (pl : Int) + 1 = ((pl + 1 : Nat) : Int) := by omega
    refine ⟨_, rfl, a, _, rfl, SqT.of ha, rfl, _, _, rfl, _, _, rfl, _, _, rfl, _, _, rfl, rfl, ?_⟩
    refine ⟨_, rfl, _, rfl, _, _, rfl, rfl, p, xs, A', pl + 1, (by show [V.ref p, V.int ((pl : Int) + 1)] = _; rw [ed]), hp, hA, hok.2.2.1, by omega, by omega, fun l1 us1 H1 s1 nl1 h1 d1 => ?_⟩
    have ul := CrsIn.len d1
    refine ⟨_, rfl, _, _, rfl, rfl, _, rfl, l1, us1, rfl, .inl (SqL.of h1), _, _, rfl, rfl, ?_⟩
    refine ⟨_, rfl, !ys.isEmpty, .inr (.inl ⟨ys, SqT.of (s1 _ _ hp'), rfl⟩), ?_⟩
    have ni := isN_iff hB
    cases hy : ys with
    | nil =>
      have bn : B.isN = true := ni.mpr hy
      refine ⟨_, rfl, _, rfl, _, rfl, (by show 3 ≤ sizeLine; decide), fun p1 np1 => ⟨(by show 1 ≤ sizeLine; decide), fun p2 np2 => ?_⟩⟩
      have en : (pl : Int) + 1 + ((us1.length : Nat) : Int) = ((pl + 1 + (A'.cr (pl + 1)).length : Nat) : Int) := by rw [ul]; omega
      have t1 := same_new np1 (.tup [V.str "if", u, .int ((pl : Int) + 1 + ((us1.length : Nat) : Int))])
      have t2 := same_new np2 (.lst [V.ref p1])
      have hp1 := t2 _ _ (upd_same (H := H1) (a := p1) (o := .tup [V.str "if", u, .int ((pl : Int) + 1 + ((us1.length : Nat) : Int))]))
      have h2 := upd_same (H := upd H1 p1 (.tup [V.str "if", u, .int ((pl : Int) + 1 + ((us1.length : Nat) : Int))])) (a := p2) (o := .lst [V.ref p1])
      have s2 := t1.trans t2
      generalize upd (upd H1 p1 (.tup [V.str "if", u, .int ((pl : Int) + 1 + ((us1.length : Nat) : Int))])) p2 (.lst [V.ref p1]) = H2 at hp1 h2 s2
      refine ⟨_, rfl, p2, l1, _, us1, rfl, rfl, h2, s2 _ _ h1, by show 1 + _ ≤ _; omega, fun l nl => ?_⟩
      have t4 := same_new nl (.lst ([V.ref p1] ++ us1))
      refine q l _ _ ((s1.trans s2).trans t4) ((s1.trans s2).free nl) upd_same ?_
      rw [en] at hp1
      show CrsIn _ (ifCr e (A'.cr (pl + 1)) B.isN (B.cr (pl + 2 + (A'.cr (pl + 1)).length)) pl) _
      unfold ifCr
      rw [bn, if_pos rfl]
      exact ⟨_, _, rfl, ⟨p1, u, rfl, t4 _ _ hp1, te.same ((s1.trans s2).trans t4)⟩, d1.same (s2.trans t4)⟩
    | cons y0 ys0 =>
      have bn : B.isN = false := by
        cases z : B.isN with
        | false => rfl
        | true => rw [ni.mp z] at hy; cases hy
      have en : (pl : Int) + 1 + ((us1.length : Nat) : Int) + 1 = ((pl + 2 + (A'.cr (pl + 1)).length : Nat) : Int) := by rw [ul]; omega
      refine ⟨_, rfl, _, _, rfl, rfl, ?_⟩
      refine ⟨_, rfl, _, rfl, p', ys, B, pl + 2 + (A'.cr (pl + 1)).length, (by show [V.ref p', V.int ((pl : Int) + 1 + ((us1.length : Nat) : Int) + 1)] = _; rw [en]), s1 _ _ hp', hB.same s1, hok.2.2.2.1, by omega, by omega, fun l3 us3 H3 s3 nl3 h3 d3 => ?_⟩
      have ul3 := CrsIn.len d3
      have ej : (pl : Int) + 1 + ((us1.length : Nat) : Int) + 1 + ((us3.length : Nat) : Int) = ((pl + 2 + (A'.cr (pl + 1)).length + (B.cr (pl + 2 + (A'.cr (pl + 1)).length)).length : Nat) : Int) := by rw [ul, ul3]; omega
      refine ⟨_, rfl, _, rfl, _, rfl, (by show 3 ≤ sizeLine; decide), fun p1 np1 => ⟨(by show 1 ≤ sizeLine; decide), fun p2 np2 => ?_⟩⟩
      have t1 := same_new np1 (.tup [V.str "if", u, .int ((pl : Int) + 1 + ((us1.length : Nat) : Int) + 1)])
      have t2 := same_new np2 (.lst [V.ref p1])
      have hp1 := t2 _ _ (upd_same (H := H3) (a := p1) (o := .tup [V.str "if", u, .int ((pl : Int) + 1 + ((us1.length : Nat) : Int) + 1)]))
      have h2 := upd_same (H := upd H3 p1 (.tup [V.str "if", u, .int ((pl : Int) + 1 + ((us1.length : Nat) : Int) + 1)])) (a := p2) (o := .lst [V.ref p1])
      have s4 := t1.trans t2
      generalize upd (upd H3 p1 (.tup [V.str "if", u, .int ((pl : Int) + 1 + ((us1.length : Nat) : Int) + 1)])) p2 (.lst [V.ref p1]) = H4 at hp1 h2 s4
      rw [en] at hp1
      refine ⟨_, rfl, p2, l1, _, us1, rfl, rfl, h2, s4 _ _ (s3 _ _ h1), by show 1 + _ ≤ _; omega, fun l5 nl5 => ?_⟩
      have s5 := same_new nl5 (.lst ([V.ref p1] ++ us1))
      have h5 := upd_same (H := H4) (a := l5) (o := .lst ([V.ref p1] ++ us1))
      have hp5 := s5 _ _ hp1
      generalize upd H4 l5 (.lst ([V.ref p1] ++ us1)) = H5 at s5 h5 hp5
      have s15 := s3.trans (s4.trans s5)
      refine ⟨_, rfl, _, rfl, l3, us3, rfl, .inl (SqL.of (s5 _ _ (s4 _ _ h3))), _, _, rfl, rfl, (by show 2 ≤ sizeLine; decide), fun p6 np6 => ⟨(by show 1 ≤ sizeLine; decide), fun p7 np7 => ?_⟩⟩
      have t6 := same_new np6 (.tup [V.str "jump", .int ((pl : Int) + 1 + ((us1.length : Nat) : Int) + 1 + ((us3.length : Nat) : Int))])
      have t7 := same_new np7 (.lst [V.ref p6])
      have hp6 := t7 _ _ (upd_same (H := H5) (a := p6) (o := .tup [V.str "jump", .int ((pl : Int) + 1 + ((us1.length : Nat) : Int) + 1 + ((us3.length : Nat) : Int))]))
      have h7 := upd_same (H := upd H5 p6 (.tup [V.str "jump", .int ((pl : Int) + 1 + ((us1.length : Nat) : Int) + 1 + ((us3.length : Nat) : Int))])) (a := p7) (o := .lst [V.ref p6])
      have s7 := t6.trans t7
      generalize upd (upd H5 p6 (.tup [V.str "jump", .int ((pl : Int) + 1 + ((us1.length : Nat) : Int) + 1 + ((us3.length : Nat) : Int))])) p7 (.lst [V.ref p6]) = H7 at hp6 h7 s7
      rw [ej] at hp6
      refine ⟨l5, p7, _, _, rfl, rfl, s7 _ _ h5, h7, by rw [List.length_append]; show 1 + _ + 1 ≤ _; omega, fun l8 nl8 => ?_⟩
      have s8 := same_new nl8 (.lst (([V.ref p1] ++ us1) ++ [V.ref p6]))
      have h8 := upd_same (H := H7) (a := l8) (o := .lst (([V.ref p1] ++ us1) ++ [V.ref p6]))
      generalize upd H7 l8 (.lst (([V.ref p1] ++ us1) ++ [V.ref p6])) = H8 at s8 h8
      have s58 := s5.trans (s7.trans s8)
      refine ⟨_, rfl, l8, l3, _, _, rfl, rfl, h8, s58 _ _ (s4 _ _ h3), by rw [List.length_append, List.length_append]; show 1 + _ + 1 + _ ≤ _; omega, fun l nl => ?_⟩
      have s9 := same_new nl (.lst ((([V.ref p1] ++ us1) ++ [V.ref p6]) ++ us3))
      have sAll := s58.trans s9
      refine q l _ _ (s1.trans (s3.trans (s4.trans sAll))) ((s1.trans (s3.trans (s4.trans s58))).free nl) upd_same ?_
      show CrsIn _ (ifCr e (A'.cr (pl + 1)) B.isN (B.cr (pl + 2 + (A'.cr (pl + 1)).length)) pl) _
      unfold ifCr
      generalize upd H8 l (.lst ((([V.ref p1] ++ us1) ++ [V.ref p6]) ++ us3)) = H9 at s9 sAll
      rw [bn, if_neg Bool.false_ne_true, List.append_assoc, List.append_assoc]
      show CrsIn H9 _ (V.ref p1 :: (us1 ++ (V.ref p6 :: us3)))
      refine ⟨_, _, rfl, ⟨p1, u, rfl, sAll _ _ hp1, te.same (s1.trans (s3.trans (s4.trans sAll)))⟩, ?_⟩
      exact CrsIn.app (d1.same (s3.trans (s4.trans sAll))) ⟨_, _, rfl, ⟨p6, rfl, s9 _ _ (s8 _ _ hp6)⟩, d3.same (s4.trans sAll)⟩
  | nil => cases hR
  | _ => cases hif
theorem codesAll {fr fi : Addr} {dr di : FuncData} (FR : Fun K "rows_code" "rows_code" sRowsCode fr dr) (mR : mg "rows_code" = some (.ref fr)) (bR : Binds K dr ["rows", "place"] []) (FI : Fun K "if_code" "if_code" sIfCode fi di) (mI : mg "if_code" = some (.ref fi)) (bI : Binds K di ["row", "place"] []) (T : Bi mg) :
    ∀ n : Nat, FnOk P w K mg base CX0 (2 + 2 * n) fr dr ["rows", "place"] (spRowsCode n)
  | 0 => ok_rowsCode (n := 0) (k := 1) FR ⟨ok_ifCode (n := 0) (k := 0) FI (fun h => absurd h (by decide)) mR FR.kp bR T, mI, FI.kp, bI⟩ T
  | n + 1 => ok_rowsCode (n := n + 1) (k := 2 + 2 * n + 1) FR ⟨ok_ifCode (n := n + 1) (k := 2 + 2 * n) FI (fun _ => codesAll FR mR bR FI mI bI T n) mR FR.kp bR T, mI, FI.kp, bI⟩ T
theorem ok_codeOf {f i : Addr} {fd idd : FuncData} (F : Fun K "code_of" "code_of" sCodeOf f fd) (RC : Fk P w K mg base 8 "rows_code" i idd ["rows", "place"] (spRowsCode 3)) : FnOk P w K mg base CX0 9 f fd ["work"] (spCodeOf) := by
  refine F.ok scCodeOf (fun vs H Q E h => ?_) (fun cdv A outer s H vs Q E hr h => ?_)
  · obtain ⟨v, W, n, _, rfl, _⟩ := h
    rfl
  obtain ⟨v, W, n, hn, rfl, ⟨a, pn, pr, xs, rfl, ha, hpn, hpr, hR⟩, hok, hc, q⟩ := h
  refine ⟨_, (pss_one (ps_ret (pe_op op_cat (pe_call RC.G hr (by rfl) RC.m RC.k RC.b .nil pass0 (pa_cons (pe_ix ix_tup (pv 0) pe_int (fun _ _ => rfl)) (pa_cons pe_int pa_nil))) (pe_lst (pa_cons (pe_tup (pa_cons pe_str (pa_cons (pe_tup (pa_cons pe_str (pa_cons pe_int pa_nil))) pa_nil))) pa_nil))))), ?_⟩
  have hs : sizeLine = 16777216 := by decide
  have lA := W.rows.cr_len 0
  refine ⟨_, rfl, a, _, 4, _, rfl, rfl, SqT.of ha, atI_nat (j := 4) rfl, pr, xs, W.rows, 0, rfl, hpr, hR, Rs.ok_up hn hok, hc, by omega, fun l1 us1 H1 s1 nl1 h1 d1 => ?_⟩
  refine ⟨(by show 2 ≤ sizeLine; decide), fun p1 np1 => ⟨(by show 2 ≤ sizeLine; decide), fun p2 np2 => ⟨(by show 1 ≤ sizeLine; decide), fun p3 np3 => ?_⟩⟩⟩
  have t1 := same_new np1 (.tup [V.str "number", .int 0])
  have t2 := same_new np2 (.tup [V.str "give", .ref p1])
  have t3 := same_new np3 (.lst [V.ref p2])
  have hp1 := t3 _ _ (t2 _ _ (upd_same (H := H1) (a := p1) (o := .tup [V.str "number", .int 0])))
  have hp2 := t3 _ _ (upd_same (H := upd H1 p1 (.tup [V.str "number", .int 0])) (a := p2) (o := .tup [V.str "give", .ref p1]))
  have h3 := upd_same (H := upd (upd H1 p1 (.tup [V.str "number", .int 0])) p2 (.tup [V.str "give", .ref p1])) (a := p3) (o := .lst [V.ref p2])
  have s3 := t1.trans (t2.trans t3)
  generalize upd (upd (upd H1 p1 (.tup [V.str "number", .int 0])) p2 (.tup [V.str "give", .ref p1])) p3 (.lst [V.ref p2]) = H3 at hp1 hp2 h3 s3
  have ul := CrsIn.len d1
  refine ⟨l1, p3, us1, [V.ref p2], rfl, rfl, s3 _ _ h1, h3, by show _ + 1 ≤ _; omega, fun l nl => ?_⟩
  have t4 := same_new nl (.lst (us1 ++ [V.ref p2]))
  refine q l _ _ ((s1.trans s3).trans t4) ((s1.trans s3).free nl) upd_same ?_
  exact CrsIn.app (d1.same (s3.trans t4)) (CrsIn.one ⟨p2, _, rfl, t4 _ _ hp2, p1, rfl, t4 _ _ hp1⟩)
end
end SH

set_option Elab.async false
set_option linter.all false
set_option maxRecDepth 100000
namespace SH
open PySem L2
abbrev sNextRow : Stmt := topS 84
abbrev sRoomOf : Stmt := topS 83
abbrev sMostT : Stmt := topS 104
theorem scNextRow : FnScope ["task", "frame"] ["task"] (defScope sNextRow) := ⟨rfl, rfl, rfl, by decide +kernel, rfl, by decide +kernel, by decide +kernel⟩
theorem scRoomOf : FnScope ["task", "frame"] ["task"] (defScope sRoomOf) := ⟨rfl, rfl, rfl, by decide +kernel, rfl, by decide +kernel, by decide +kernel⟩
theorem scMostT : FnScope ["room", "nodes", "most", "node"] ["room", "nodes"] (defScope sMostT) := ⟨rfl, rfl, rfl, by decide +kernel, rfl, by decide +kernel, by decide +kernel⟩
/-- what a task and a frame hold -/
structure TkSt where
  (p l : Addr) (bg gs st : Int) (res : V)
structure FrSt where
  (c d : Addr) (rm dp nr pl : Int)
abbrev tkF (T : TkSt) : List (Str × V) := [("path", .ref T.p), ("frames", .ref T.l), ("frames_begun", .int T.bg), ("goes", .int T.gs), ("steps", .int T.st), ("result", T.res)]
abbrev frF (F : FrSt) : List (Str × V) := [("code", .ref F.c), ("room", .int F.rm), ("worths", .ref F.d), ("depth", .int F.dp), ("number", .int F.nr), ("place", .int F.pl)]
def TkAt (H : Hp) (C t : Addr) (T : TkSt) : Prop := ∃ dx, H t = some (.ins C dx (tkF T))
def FrAt (H : Hp) (C x : Addr) (F : FrSt) : Prop := ∃ dx, H x = some (.ins C dx (frF F))
theorem TkAt.same {H H' : Hp} (h : Same H H') {C t : Addr} {T : TkSt} : TkAt H C t T → TkAt H' C t T := fun ⟨dx, e⟩ => ⟨dx, h _ _ e⟩
theorem FrAt.same {H H' : Hp} (h : Same H H') {C t : Addr} {F : FrSt} : FrAt H C t F → FrAt H' C t F := fun ⟨dx, e⟩ => ⟨dx, h _ _ e⟩
structure TkT (K : PySem.W.Frag) (C : Addr) : Prop where
  cl : Cls K C
  path : NoAttr K C "path"
  frames : NoAttr K C "frames"
  begun : NoAttr K C "frames_begun"
  goes : NoAttr K C "goes"
  steps : NoAttr K C "steps"
  result : NoAttr K C "result"
structure FrT (K : PySem.W.Frag) (C : Addr) : Prop where
  cl : Cls K C
  code : NoAttr K C "code"
  room : NoAttr K C "room"
  worths : NoAttr K C "worths"
  depth : NoAttr K C "depth"
  number : NoAttr K C "number"
  place : NoAttr K C "place"
theorem atI_last {α : Type} (xs : List α) (x : α) : atI (xs ++ [x]) (-1) = some x := by
  have h : ixN (xs ++ [x]).length (-1) = some xs.length := by
    unfold ixN
    rw [List.length_append]
    simp
    try omega
  unfold atI
  rw [h]
  show (xs ++ [x])[xs.length]? = some x
  rw [List.getElem?_append_right (Nat.le_refl _), Nat.sub_self]
  rfl
def spNextRow (CT CF : Addr) : Sp := fun vs H Q _ => ∃ (t x : Addr) (T : TkSt) (F : FrSt) (fs rows : List V) (v : V), vs = [.ref t] ∧ TkAt H CT t T ∧ H T.l = some (.lst (fs ++ [.ref x])) ∧ FrAt H CF x F ∧ H F.c = some (.lst rows) ∧ atI rows F.pl = some v ∧ Q v H
theorem pe_fldK {X : Cx} {e : Expr} {f : Str} {pos : Pos} {ta : TE} (K : PySem.W.Frag) (h : X.K = K) (he : PE X e ta) (ha : attributeBase e f X.env (eval e X.env) = eval e X.env) : PE X (.Attribute e f pos) (tFld K ta f) := h ▸ pe_fld he ha
/-- the frames of a task, one behind the other -/
structure FrsAt (H : Hp) (C : Addr) (xs : List Addr) (Fs : List FrSt) : Prop where
  len : xs.length = Fs.length
  at_ : ∀ (i : Nat) (x : Addr), xs[i]? = some x → ∃ F : FrSt, Fs[i]? = some F ∧ FrAt H C x F
def spRoomOf (CT CF : Addr) : Sp := fun vs H Q _ => ∃ (t : Addr) (T : TkSt) (xs : List Addr) (Fs : List FrSt), vs = [.ref t] ∧ TkAt H CT t T ∧ H T.l = some (.lst (xs.map V.ref)) ∧ FrsAt H CF xs Fs ∧ xs.length ≤ 1000 ∧ ∀ H', Same H H' → Q (.int (Fs.map FrSt.rm).sum) H'
def mostT : Int → Int → List Int → Int
  | _, m, [] => m
  | r, m, d :: ds => mostT (r + d) (if r + d > m then r + d else m) ds
def spMostT : Sp := fun vs H Q _ => ∃ (r : Int) (l : Addr) (us : List V) (ds : List Int), vs = [.int r, .ref l] ∧ H l = some (.lst us) ∧ us.length = ds.length ∧ (∀ (i : Nat) (u : V), us[i]? = some u → ∃ (a : Addr) (ts : List V) (d : Int), u = V.ref a ∧ H a = some (.tup ts) ∧ atI ts 6 = some (.int d) ∧ ds[i]? = some d) ∧ Q (.int (mostT r r ds)) H
section
variable {P : Program} {w : World} {K : PySem.W.Frag} {mg : Str → Option Value} {base : Heap}
theorem ok_nextRow {f CT CF : Addr} {fd : FuncData} (F : Fun K "next_row" "next_row" sNextRow f fd) (TT : TkT K CT) (FT : FrT K CF) : FnOk P w K mg base CX0 1 f fd ["task"] (spNextRow CT CF) := by
  refine F.ok scNextRow (fun vs H Q E h => ?_) (fun cdv A outer s H vs Q E hr h => ?_)
  · obtain ⟨t, x, T, F, fs, rows, v, rfl, _⟩ := h
    rfl
  obtain ⟨t, x, T, F, fs, rows, v, rfl, ⟨dt, ht⟩, hl, ⟨df, hx⟩, hc, hv, q⟩ := h
  refine ⟨_, (pss_cons (ps_set (i := 1) scNextRow.nd rfl (Or.inl rfl) (pe_ix ix_list (pe_fld (pv 0) rfl) (pe_un un_neg pe_int) (fun _ _ => rfl)))
    (pss_one (ps_ret (pe_ix ix_list (pe_fld (pv 1) rfl) (pe_fld (pv 1) rfl) (fun _ _ => rfl))))), ?_⟩
  refine ⟨_, rfl, t, CT, dt, _, _, rfl, ht, TT.cl, TT.frames, rfl, _, rfl, T.l, _, -1, _, rfl, rfl, SqL.of hl, atI_last _ _, ?_⟩
  refine ⟨_, rfl, x, CF, df, _, _, rfl, hx, FT.cl, FT.code, rfl, _, rfl, x, CF, df, _, _, rfl, hx, FT.cl, FT.place, rfl, F.c, _, _, _, rfl, rfl, SqL.of hc, hv, q⟩
theorem ok_roomOf {f CT CF : Addr} {fd : FuncData} (F : Fun K "room_of" "room_of" sRoomOf f fd) (TT : TkT K CT) (FT : FrT K CF) (q_sum : mg "sum" = none) : FnOk P w K mg base CX0 1 f fd ["task"] (spRoomOf CT CF) := by
  refine F.ok scRoomOf (fun vs H Q E h => ?_) (fun cdv A outer s H vs Q E hr h => ?_)
  · obtain ⟨t, T, xs, Fs, rfl, _⟩ := h
    rfl
  obtain ⟨t, T, xs, Fs, rfl, ⟨dt, ht⟩, hl, hF, hn, q⟩ := h
  refine ⟨_, (pss_one (ps_ret (pe_callB (cr_sum rfl) (by rfl) q_sum (by decide +kernel) (pa_cons (pe_lc (own := [("frame", 1)]) (g := gName 1) (tt := tYes) (by rfl) scRoomOf.nd (pi_list (pe_fld (pv 0) rfl)) (blkOk_by (own := [("frame", 1)]) (N := ["task", "frame"]) (sc := defScope sRoomOf) (by decide +kernel)) (fun _ _ _ _ _ => pg_name (i := 1) scRoomOf.nd rfl (Or.inl rfl)) (fun _ _ _ _ _ => pts_nil) (fun _ _ _ _ _ => (pe_fldK K rfl (pv 1) rfl))) pa_nil)))), ?_⟩
  have hs : sizeLine = 16777216 := by decide
  refine ⟨_, rfl, t, CT, dt, _, _, rfl, ht, TT.cl, TT.frames, rfl, T.l, rfl, ⟨_, SqL.of hl⟩, ?_⟩
  intro D hD
  refine lc_list (K := K) (a := T.l) (xs := xs.map V.ref) (fun j H' => H' D = some (.lst (((Fs.take j).map FrSt.rm).map V.int)) ∧ Same H H') ⟨upd_same, same_new hD _⟩ (fun j H' _ h => SqL.of (h.2 _ _ hl)) ?_ ?_
  · rintro j v H7 hv ⟨hD7, s7⟩
    rw [List.getElem?_map] at hv
    cases hx : xs[j]? with
    | none => rw [hx] at hv; cases hv
    | some x =>
    rw [hx] at hv
    cases hv
    obtain ⟨F, hFj, dx, hxF⟩ := hF.at_ j x hx
    have hj : j < Fs.length := (List.getElem?_eq_some_iff.mp hFj).1
    refine ⟨rfl, ?_⟩
    refine ⟨_, rfl, x, CF, dx, _, _, rfl, s7 _ _ hxF, FT.cl, FT.room, rfl, ?_⟩
    refine ⟨_, hD7, by rw [List.length_map, List.length_map, List.length_take]; have := hF.len; omega, ?_, ?_⟩
    · rw [upd_same, List.take_add_one, hFj, List.map_append, List.map_append]
      rfl
    · intro b o z
      rw [upd_ne (ne_of_none z hD)]
      exact s7 _ _ z
  · rintro H7 ⟨hD7, s7⟩
    rw [List.length_map, hF.len, List.take_length] at hD7
    exact ⟨D, _, rfl, SqL.of hD7, q H7 s7⟩
theorem ok_mostT {f : Addr} {fd : FuncData} (F : Fun K "most_taken" "most_taken" sMostT f fd) (RC : Gi mg "CHANGE" 6) (T : Bi mg) : FnOk P w K mg base CX0 1 f fd ["room", "nodes"] spMostT := by
  refine F.ok scMostT (fun vs H Q E h => ?_) (fun cdv A outer s H vs Q E hr h => ?_)
  · obtain ⟨r, l, us, ds, rfl, _⟩ := h
    rfl
  obtain ⟨r, l, us, ds, rfl, hl, hn, hU, q⟩ := h
  refine ⟨_, (pss_cons (ps_set (i := 2) scMostT.nd rfl (Or.inl rfl) (pv 0))
    (pss_cons (ps_for PassesOwn.never rfl (pi_list (pv 1)) (pg_name (i := 3) scMostT.nd rfl (.inl rfl))
      (pss_cons (ps_aug (i := 0) scMostT.nd rfl (Or.inl rfl) (pe_ix ix_tup (pv 3) (pe_gi RC) (fun _ _ => rfl)) ip_add)
    (pss_one (ps_set (i := 2) scMostT.nd rfl (Or.inl rfl) (pe_callB (call_max2 rfl) (by rfl) T.max (by decide +kernel) (pa_cons (pv 2) (pa_cons (pv 0) pa_nil)))))))
    (pss_one (ps_ret (pv 2))))), ?_⟩
  refine ⟨_, rfl, _, rfl, l, rfl, ⟨_, SqL.of hl⟩, ?_⟩
  refine for_list (K := K) (a := l) (xs := us) (fun i σ H' => ∃ (r1 m1 : Int) (y : Option V), σ = [some (.int r1), some (.ref l), some (.int m1), y] ∧ H' = H ∧ mostT r1 m1 (ds.drop i) = mostT r r ds) ⟨r, r, none, rfl, rfl, rfl⟩ (fun i σ H' _ ⟨_, _, _, _, e, _⟩ => by rw [e]; exact SqL.of hl) ?_ ?_
  · rintro i v σ H1 hv ⟨r1, m1, y, rfl, rfl, e⟩
    obtain ⟨a, ts, d, rfl, ha, h6, hd⟩ := hU i v hv
    refine ⟨_, rfl, _, rfl, a, _, 6, _, rfl, rfl, SqT.of ha, h6, ?_⟩
    have hi : i < ds.length := (List.getElem?_eq_some_iff.mp hd).1
    have e2 : ds.drop i = d :: ds.drop (i + 1) := by
      rw [List.drop_eq_getElem_cons hi]
      rw [(List.getElem?_eq_some_iff.mp hd).2]
    rw [e2] at e
    exact ⟨_, _, rfl, rfl, _, rfl, _, rfl, _, _, rfl, r1 + d, _, _, rfl, rfl, e⟩
  · rintro σ H1 ⟨r1, m1, y, rfl, rfl, e⟩
    rw [hn, List.drop_length] at e
    refine ⟨_, rfl, ?_⟩
    rw [← e] at q
    exact q
end
end SH

set_option Elab.async false
set_option linter.all false
set_option maxRecDepth 100000
namespace SH
open PySem L2
abbrev sTaskInit : Stmt := inClass (topS 81) 0
theorem scTaskInit : FnScope ["self", "path", "frames"] ["self", "path", "frames"] (defScope sTaskInit) := ⟨rfl, rfl, rfl, by decide +kernel, rfl, by decide +kernel, by decide +kernel⟩
def spTaskInit (CT : Addr) : Sp := fun vs H Q _ => ∃ (x dx p l : Addr) (us : List V), vs = [.ref x, .ref p, .ref l] ∧ H x = some (.ins CT dx []) ∧ H l = some (.lst us) ∧ Q .non (upd H x (.ins CT dx (tkF ⟨p, l, (us.length : Nat), 0, 0, .non⟩)))
abbrev sFrameInit : Stmt := inClass (topS 80) 0
theorem scFrameInit : FnScope ["self", "code", "room", "worths", "depth", "number", "place"] ["self", "code", "room", "worths", "depth", "number", "place"] (defScope sFrameInit) := ⟨rfl, rfl, rfl, by decide +kernel, rfl, by decide +kernel, by decide +kernel⟩
def spFrameInit (CF : Addr) : Sp := fun vs H Q _ => ∃ (x dx : Addr) (F : FrSt), vs = [.ref x, .ref F.c, .int F.rm, .ref F.d, .int F.dp, .int F.nr, .int F.pl] ∧ H x = some (.ins CF dx []) ∧ Q .non (upd H x (.ins CF dx (frF F)))
theorem upd_upd {H : Hp} {a : Addr} {o o' : HO} : upd (upd H a o) a o' = upd H a o' := by
  funext b
  by_cases e : b = a
  · rw [e, upd_same, upd_same]
  · rw [upd_ne e, upd_ne e, upd_ne e]
abbrev sAreNums : Stmt := topS 102
theorem scAreNums : FnScope ["thing", "many", "part"] ["thing", "many"] (defScope sAreNums) := ⟨rfl, rfl, rfl, by decide +kernel, rfl, by decide +kernel, by decide +kernel⟩
def spAreNums : Sp := fun vs H Q _ => ∃ (l : Addr) (xs : List Int), vs = [.ref l, .int (xs.length : Nat)] ∧ H l = some (.lst (xs.map V.int)) ∧ (∀ x ∈ xs, x.natAbs ≤ mostN) ∧ xs.length ≤ 1000 ∧ ∀ H', Same H H' → Q (.bl true) H'
section
variable {P : Program} {w : World} {K : PySem.W.Frag} {mg : Str → Option Value} {base : Heap}
theorem ok_taskInit {f CT : Addr} {fd : FuncData} (F : Fun K "__init__" "Task.__init__" sTaskInit f fd) (TT : TkT K CT) (T : Bi mg) : FnOk P w K mg base CX0 1 f fd ["self", "path", "frames"] (spTaskInit CT) := by
  refine F.ok scTaskInit (fun vs H Q E h => ?_) (fun cdv A outer s H vs Q E hr h => ?_)
  · obtain ⟨x, dx, p, l, us, rfl, _⟩ := h
    rfl
  obtain ⟨x, dx, p, l, us, rfl, hx, hl, q⟩ := h
  refine ⟨_, (pss_cons (ps_fld (pv 0) (pv 1) rfl)
    (pss_cons (ps_fld (pv 0) (pv 2) rfl)
    (pss_cons (ps_fld (pv 0) (pe_callB call_len_seq (by rfl) T.len (by decide +kernel) (pa_cons (pv 2) pa_nil)) rfl)
    (pss_cons (ps_fld (pv 0) pe_int rfl)
    (pss_cons (ps_fld (pv 0) pe_int rfl)
    (pss_one (ps_fld (pv 0) pe_non rfl))))))), ?_⟩
  have nlx : l ≠ x := fun e => by rw [e, hx] at hl; cases hl
  refine ⟨_, rfl, _, rfl, x, CT, dx, _, rfl, hx, TT.cl, TT.path, (by decide), ?_⟩
  refine ⟨_, rfl, _, rfl, x, CT, dx, _, rfl, upd_same, TT.cl, TT.frames, (by show 1 < 1000; decide), ?_⟩
  rw [upd_upd]
  refine ⟨_, rfl, l, _, rfl, .inl (SqL.of (by rw [upd_ne nlx]; exact hl)), _, rfl, x, CT, dx, _, rfl, upd_same, TT.cl, TT.begun, (by show 2 < 1000; decide), ?_⟩
  rw [upd_upd]
  refine ⟨_, rfl, x, CT, dx, _, rfl, upd_same, TT.cl, TT.goes, (by show 3 < 1000; decide), ?_⟩
  rw [upd_upd]
  refine ⟨_, rfl, x, CT, dx, _, rfl, upd_same, TT.cl, TT.steps, (by show 4 < 1000; decide), ?_⟩
  rw [upd_upd]
  refine ⟨_, rfl, x, CT, dx, _, rfl, upd_same, TT.cl, TT.result, (by show 5 < 1000; decide), ?_⟩
  rw [upd_upd]
  exact q
theorem ok_frameInit {f CF : Addr} {fd : FuncData} (F : Fun K "__init__" "Frame.__init__" sFrameInit f fd) (FT : FrT K CF) : FnOk P w K mg base CX0 1 f fd ["self", "code", "room", "worths", "depth", "number", "place"] (spFrameInit CF) := by
  refine F.ok scFrameInit (fun vs H Q E h => ?_) (fun cdv A outer s H vs Q E hr h => ?_)
  · obtain ⟨x, dx, F, rfl, _⟩ := h
    rfl
  obtain ⟨x, dx, F, rfl, hx, q⟩ := h
  refine ⟨_, (pss_cons (ps_fld (pv 0) (pv 1) rfl)
    (pss_cons (ps_fld (pv 0) (pv 2) rfl)
    (pss_cons (ps_fld (pv 0) (pv 3) rfl)
    (pss_cons (ps_fld (pv 0) (pv 4) rfl)
    (pss_cons (ps_fld (pv 0) (pv 5) rfl)
    (pss_one (ps_fld (pv 0) (pv 6) rfl))))))), ?_⟩
  refine ⟨_, rfl, _, rfl, x, CF, dx, _, rfl, hx, FT.cl, FT.code, (by decide), ?_⟩
  refine ⟨_, rfl, _, rfl, x, CF, dx, _, rfl, upd_same, FT.cl, FT.room, (by show 1 < 1000; decide), ?_⟩
  rw [upd_upd]
  refine ⟨_, rfl, _, rfl, x, CF, dx, _, rfl, upd_same, FT.cl, FT.worths, (by show 2 < 1000; decide), ?_⟩
  rw [upd_upd]
  refine ⟨_, rfl, _, rfl, x, CF, dx, _, rfl, upd_same, FT.cl, FT.depth, (by show 3 < 1000; decide), ?_⟩
  rw [upd_upd]
  refine ⟨_, rfl, _, rfl, x, CF, dx, _, rfl, upd_same, FT.cl, FT.number, (by show 4 < 1000; decide), ?_⟩
  rw [upd_upd]
  refine ⟨_, rfl, _, rfl, x, CF, dx, _, rfl, upd_same, FT.cl, FT.place, (by show 5 < 1000; decide), ?_⟩
  rw [upd_upd]
  exact q
theorem ok_areNums {f u : Addr} {fd ud : FuncData} (F : Fun K "are_numbers" "are_numbers" sAreNums f fd) (WH : Fk P w K mg base 1 "is_whole" u ud ["thing"] spWhole) (RK : Rk mg) (T : Bi mg) (mt : mg "list" = none) : FnOk P w K mg base CX0 2 f fd ["thing", "many"] spAreNums := by
  refine F.ok scAreNums (fun vs H Q E h => ?_) (fun cdv A outer s H vs Q E hr h => ?_)
  · obtain ⟨l, xs, rfl, _⟩ := h
    rfl
  obtain ⟨l, xs, rfl, hl, hN, hn, q⟩ := h
  refine ⟨_, (pss_cons (ps_if (PW.pt (pw_or (pt_not (pt_val (pe_callB call_isi (by rfl) T.isinstance (by decide +kernel) (pa_cons (pv 0) (pa_cons (pe_bltn (v := .ty "list") (by rfl) mt (by decide +kernel) rfl) pa_nil))))) (pw_or1 (pt_cmpR op_ne (pe_callB call_len_seq (by rfl) T.len (by decide +kernel) (pa_cons (pv 0) pa_nil)) (pv 1) (nomark _)))))
      (pss_one (ps_ret pe_bl))
      pss_nil)
    (pss_one (ps_ret (pe_callB (cr_all rfl) (by rfl) T.all (by decide +kernel) (pa_cons (pe_lc (own := [("part", 2)]) (g := gName 2) (tt := tYes) (by rfl) scAreNums.nd (pi_list (pv 0)) (blkOk_by (own := [("part", 2)]) (N := ["thing", "many", "part"]) (sc := defScope sAreNums) (by decide +kernel)) (fun _ _ _ _ _ => pg_name (i := 2) scAreNums.nd rfl (Or.inl rfl)) (fun _ _ _ _ _ => pts_nil) (fun _ _ _ _ _ => (pe_and (pe_call WH.G (hr.mono (by omega)) (by rfl) WH.m WH.k WH.b .nil pass0 (pa_cons (pv 2) pa_nil)) (pe_one (pe_cmpR op_le (pe_callB call_abs (by rfl) T.abs (by decide +kernel) (pa_cons (pv 2) pa_nil)) (pe_gi RK.most) (nomark _)))))) pa_nil))))), ?_⟩
  have hs : sizeLine = 16777216 := by decide
  have hM : mostN = 999999999999999999999999999999 := rfl
  refine ⟨_, rfl, _, _, _, _, true, rfl, .ty "list", .base (.lst hl), kit_ty (by decide +kernel), _, rfl, ?_⟩
  refine iteF ?_
  refine ⟨_, rfl, l, _, rfl, .inl (SqL.of hl), _, rfl, rfl, _, rfl, ?_⟩
  refine ite2 (fun c => ?_) (fun _ => ?_)
  · rw [List.length_map] at c
    exact absurd c (by rw [decide_eq_true rfl]; decide)
  refine ⟨_, rfl, l, rfl, ⟨_, SqL.of hl⟩, ?_⟩
  intro D hD
  refine lc_list (K := K) (a := l) (xs := xs.map V.int) (fun j H' => H' D = some (.lst ((List.replicate j true).map V.bl)) ∧ Same H H') ⟨upd_same, same_new hD _⟩ (fun j H' _ h => SqL.of (h.2 _ _ hl)) ?_ ?_
  · rintro j v H7 hv ⟨hD7, s7⟩
    rw [List.getElem?_map] at hv
    cases hx : xs[j]? with
    | none => rw [hx] at hv; cases hv
    | some x =>
    rw [hx] at hv
    cases hv
    have hj : j < xs.length := (List.getElem?_eq_some_iff.mp hx).1
    have hb := hN x (List.mem_of_getElem? hx)
    refine ⟨rfl, ?_⟩
    refine ⟨_, rfl, x, rfl, ?_⟩
    refine ⟨_, rfl, iteT ⟨_, rfl, _, rfl, _, _, rfl, rfl, ?_⟩⟩
    have e : decide ((if x < 0 then -x else x) ≤ (1000000 ^ 5 - 1 : Int)) = true := decide_eq_true (by
      have h65 : (1000000 : Int) ^ 5 = 1000000000000000000000000000000 := by decide +kernel
      rw [h65]
      split <;> omega)
    refine ⟨_, hD7, by rw [List.length_map, List.length_replicate]; omega, ?_, ?_⟩
    · rw [upd_same]
      show some (HO.lst (List.map V.bl (List.replicate j true) ++ [V.bl (decide ((if x < 0 then -x else x) ≤ (1000000 ^ 5 - 1 : Int)))])) = _
      rw [e, List.replicate_succ', List.map_append]
      rfl
    · intro b o z
      rw [upd_ne (ne_of_none z hD)]
      exact s7 _ _ z
  · rintro H7 ⟨hD7, s7⟩
    rw [List.length_map] at hD7
    refine ⟨D, _, rfl, SqL.of hD7, ?_⟩
    have e : (List.replicate xs.length true).all id = true := by
      rw [List.all_eq_true]
      intro z hz
      exact (List.mem_replicate.mp hz).2
    rw [e]
    exact q H7 s7
end
end SH

set_option Elab.async false
set_option linter.all false
set_option maxRecDepth 100000
namespace SH
open PySem L2
abbrev sMove : Stmt := topS 96
abbrev sNameMove : Stmt := topS 95
theorem scMove : FnScope ["frame", "place"] ["frame", "place"] (defScope sMove) := ⟨rfl, rfl, rfl, by decide +kernel, rfl, by decide +kernel, by decide +kernel⟩
theorem scNameMove : FnScope ["frame", "name", "worth"] ["frame", "name", "worth"] (defScope sNameMove) := ⟨rfl, rfl, rfl, by decide +kernel, rfl, by decide +kernel, by decide +kernel⟩
/-- where the jumps from a place lead -/
inductive Jmp (H : Hp) (rows : List V) : Nat → Int → Int → Prop
  | stop {p : Int} {a : Addr} {z : Str} {ts : List V} : atI rows p = some (.ref a) → H a = some (.tup (.str z :: ts)) → z ≠ "jump" → Jmp H rows 0 p p
  | go {n : Nat} {p p' p1 : Int} {a : Addr} : atI rows p = some (.ref a) → H a = some (.tup [.str "jump", .int p']) → Jmp H rows n p' p1 → Jmp H rows (n + 1) p p1
theorem Jmp.mono {H H' : Hp} {rows : List V} (h : ∀ a ts, H a = some (.tup ts) → H' a = some (.tup ts)) {n : Nat} {p p1 : Int} (j : Jmp H rows n p p1) : Jmp H' rows n p p1 := by
  induction j with
  | stop h1 h2 h3 => exact .stop h1 (h _ _ h2) h3
  | go h1 h2 _ ih => exact .go h1 (h _ _ h2) ih
def spMove (CF : Addr) : Sp := fun vs H Q _ => ∃ (x dx : Addr) (F : FrSt) (rows : List V) (n : Nat) (p0 p1 : Int), vs = [.ref x, .int p0] ∧ H x = some (.ins CF dx (frF F)) ∧ H F.c = some (.lst rows) ∧ Jmp H rows n p0 p1 ∧ Q .non (upd H x (.ins CF dx (frF { F with pl := p1 })))
def spNameMove (CF : Addr) : Sp := fun vs H Q _ => ∃ (x dx : Addr) (F : FrSt) (rows : List V) (kvs : List (Key × V)) (nm : Str) (v : V) (n : Nat) (p1 : Int), vs = [.ref x, .str nm, v] ∧ H x = some (.ins CF dx (frF F)) ∧ H F.c = some (.lst rows) ∧ H F.d = some (.dK kvs) ∧ kvs.length < 1000000 ∧ Jmp H rows n (F.pl + 1) p1 ∧
  Q .non (upd (upd H F.d (.dK (putK kvs (Sum.inr nm) v))) x (.ins CF dx (frF { F with pl := p1 })))
abbrev sGive : Stmt := topS 93
theorem scGive : FnScope ["task", "worth", "caller"] ["task", "worth"] (defScope sGive) := ⟨rfl, rfl, rfl, by decide +kernel, rfl, by decide +kernel, by decide +kernel⟩
/-- the last frame ends: the task, or the caller goes on -/
def spGive (CT CF : Addr) : Sp := fun vs H Q _ => ∃ (t dt : Addr) (T : TkSt) (v : V), vs = [.ref t, v] ∧ H t = some (.ins CT dt (tkF T)) ∧
  ((∃ x : V, H T.l = some (.lst [x]) ∧ ∀ (r : Addr) (H' : Hp), H r = none → H' r = some (.tup [.str "gives", v]) → H' T.l = some (.lst []) → H' t = some (.ins CT dt (tkF { T with res := .ref r })) → (∀ a o, a ≠ t → a ≠ T.l → H a = some o → H' a = some o) → Q .non H') ∨
   ∃ (x : V) (fs : List V) (y dy a : Addr) (F : FrSt) (rows ts : List V) (kvs : List (Key × V)) (z nm : Str) (n : Nat) (p1 : Int), H T.l = some (.lst ((fs ++ [.ref y]) ++ [x])) ∧ H y = some (.ins CF dy (frF F)) ∧ H F.c = some (.lst rows) ∧ F.c ≠ T.l ∧ atI rows F.pl = some (.ref a) ∧ H a = some (.tup (.str z :: .str nm :: ts)) ∧
     H F.d = some (.dK kvs) ∧ kvs.length < 1000000 ∧ Jmp H rows n (F.pl + 1) p1 ∧ Q .non (upd (upd (upd H T.l (.lst (fs ++ [.ref y]))) F.d (.dK (putK kvs (Sum.inr nm) v))) y (.ins CF dy (frF { F with pl := p1 }))))
section
variable {P : Program} {w : World} {K : PySem.W.Frag} {mg : Str → Option Value} {base : Heap}
theorem ok_move {f CF : Addr} {fd : FuncData} (F : Fun K "move" "move" sMove f fd) (FT : FrT K CF) : FnOk P w K mg base CX0 1 f fd ["frame", "place"] (spMove CF) := by
  refine F.ok scMove (fun vs H Q E h => ?_) (fun cdv A outer s H vs Q E hr h => ?_)
  · obtain ⟨x, dx, F, rows, n, p0, p1, rfl, _⟩ := h
    rfl
  obtain ⟨x, dx, F, rows, n, p0, p1, rfl, hx, hc, hJ, q⟩ := h
  refine ⟨_, (pss_cons (ps_while PassesOwn.never (pt_cmpR op_eq (pe_ix ix_tup (pe_ix ix_list (pe_fld (pv 0) rfl) (pv 1) (fun _ _ => rfl)) pe_int (fun _ _ => rfl)) pe_str (nomark _))
      (pss_one (ps_set (i := 1) scMove.nd rfl (Or.inl rfl) (pe_ix ix_tup (pe_ix ix_list (pe_fld (pv 0) rfl) (pv 1) (fun _ _ => rfl)) pe_int (fun _ _ => rfl)))))
    (pss_one (ps_fld (pv 0) (pv 1) rfl))), ?_⟩
  refine ⟨fun m σ H' => ∃ p, σ = [some (.ref x), some (.int p)] ∧ H' = H ∧ Jmp H rows m p p1, ⟨n, p0, rfl, rfl, hJ⟩, ?_⟩
  rintro m σ H' ⟨p, rfl, rfl, J⟩
  cases J with
  | stop h1 h2 h3 =>
    refine ⟨_, rfl, x, CF, dx, _, _, rfl, hx, FT.cl, FT.code, rfl, _, rfl, F.c, _, _, _, rfl, rfl, SqL.of hc, h1, _, _, 0, _, rfl, rfl, SqT.of h2, atI_nat (j := 0) rfl, rfl, _, rfl, ?_⟩
    rw [decide_eq_false (fun z => h3 (V.str.inj z))]
    refine iteF ?_
    exact ⟨_, rfl, _, rfl, x, CF, dx, _, rfl, hx, FT.cl, FT.place, (by show 6 < 1000; decide), q⟩
  | go h1 h2 J =>
    refine ⟨_, rfl, x, CF, dx, _, _, rfl, hx, FT.cl, FT.code, rfl, _, rfl, F.c, _, _, _, rfl, rfl, SqL.of hc, h1, _, _, 0, _, rfl, rfl, SqT.of h2, atI_nat (j := 0) rfl, rfl, _, rfl, ?_⟩
    rw [decide_eq_true rfl]
    refine iteT ⟨fun σ' H2 => ∃ p, σ' = [some (.ref x), some (.int p)] ∧ H2 = H' ∧ Jmp H' rows _ p p1, fun σ' H2 h => ⟨_, Nat.lt_succ_self _, h⟩, ?_⟩
    exact ⟨_, rfl, x, CF, dx, _, _, rfl, hx, FT.cl, FT.code, rfl, _, rfl, F.c, _, _, _, rfl, rfl, SqL.of hc, h1, _, _, 1, _, rfl, rfl, SqT.of h2, atI_nat (j := 1) rfl, _, rfl, rfl, J⟩
theorem ok_nameMove {f u CF : Addr} {fd ud : FuncData} (F : Fun K "name_and_move" "name_and_move" sNameMove f fd) (FT : FrT K CF) (MV : Fk P w K mg base 1 "move" u ud ["frame", "place"] (spMove CF)) : FnOk P w K mg base CX0 2 f fd ["frame", "name", "worth"] (spNameMove CF) := by
  refine F.ok scNameMove (fun vs H Q E h => ?_) (fun cdv A outer s H vs Q E hr h => ?_)
  · obtain ⟨x, dx, F, rows, kvs, nm, v, n, p1, rfl, _⟩ := h
    rfl
  obtain ⟨x, dx, F, rows, kvs, nm, v, n, p1, rfl, hx, hc, hd, hk, hJ, q⟩ := h
  refine ⟨_, (pss_cons (ps_dput (hu_of hr) (pe_fld (pv 0) rfl) (pv 1) (pv 2) rfl)
    (pss_one (ps_expr (pe_call MV.G (hr.mono (by omega)) (by rfl) MV.m MV.k MV.b .nil pass0 (pa_cons (pv 0) (pa_cons (pe_op op_add (pe_fld (pv 0) rfl) pe_int) pa_nil)))))), ?_⟩
  refine ⟨_, rfl, _, rfl, x, CF, dx, _, _, rfl, hx, FT.cl, FT.worths, rfl, _, rfl, F.d, upd H F.d (.dK (putK kvs (Sum.inr nm) v)), rfl, ?_, ?_⟩
  · exact .inl ⟨kvs, Sum.inr nm, hd, rfl, Nat.lt_trans hk (by decide), rfl⟩
  · have nxd : x ≠ F.d := fun e => by rw [e, hd] at hx; cases hx
    have ncd : F.c ≠ F.d := fun e => by rw [e, hd] at hc; cases hc
    have hx1 : upd H F.d (.dK (putK kvs (Sum.inr nm) v)) x = some (.ins CF dx (frF F)) := by rw [upd_ne nxd]; exact hx
    refine ⟨_, rfl, _, rfl, x, CF, dx, _, _, rfl, hx1, FT.cl, FT.place, rfl, _, _, rfl, rfl, x, dx, F, rows, n, _, p1, rfl, hx1, by rw [upd_ne ncd]; exact hc, hJ.mono (fun a ts e => ?_), q⟩
    rw [upd_ne (fun z => by rw [z, hd] at e; cases e)]
    exact e
theorem ok_give {f u m CT CF : Addr} {fd ud md : FuncData} (F : Fun K "give" "give" sGive f fd) (TT : TkT K CT) (NR : Fk P w K mg base 1 "next_row" u ud ["task"] (spNextRow CT CF)) (NM : Fk P w K mg base 2 "name_and_move" m md ["frame", "name", "worth"] (spNameMove CF)) : FnOk P w K mg base CX0 3 f fd ["task", "worth"] (spGive CT CF) := by
  refine F.ok scGive (fun vs H Q E h => ?_) (fun cdv A outer s H vs Q E hr h => ?_)
  · obtain ⟨t, dt, T, v, rfl, _⟩ := h
    rfl
  obtain ⟨t, dt, T, v, rfl, ht, h⟩ := h
  refine ⟨_, (pss_cons (ps_expr (pe_bm0 PySem.F.plainAttrs_list PySem.F.slot_list_pop PySem.F.type_list_pop mt_pop (pe_fld (pv 0) rfl)))
    (pss_cons (ps_if (pt_not (pt_truth (pe_fld (pv 0) rfl) (fun _ => rfl)))
      (pss_cons (ps_fld (pv 0) (pe_tup (pa_cons pe_str (pa_cons (pv 1) pa_nil))) rfl)
    (pss_one ps_retN))
      pss_nil)
    (pss_cons (ps_set (i := 2) scGive.nd rfl (Or.inl rfl) (pe_ix ix_list (pe_fld (pv 0) rfl) (pe_un un_neg pe_int) (fun _ _ => rfl)))
    (pss_one (ps_expr (pe_call NM.G (hr.mono (by omega)) (by rfl) NM.m NM.k NM.b .nil pass0 (pa_cons (pv 2) (pa_cons (pe_ix ix_tup (pe_call NR.G (hr.mono (by omega)) (by rfl) NR.m NR.k NR.b .nil pass0 (pa_cons (pv 0) pa_nil)) pe_int (fun _ _ => rfl)) (pa_cons (pv 1) pa_nil))))))))), ?_⟩
  rcases h with ⟨x, hl, q⟩ | ⟨x, fs, y, dy, a, F, rows, ts, kvs, z, nm, n, p1, hl, hy, hc, ncl, hat, ha, hd, hk, hJ, q⟩
  · have ntl : t ≠ T.l := fun e => by rw [e, hl] at ht; cases ht
    refine ⟨_, rfl, t, CT, dt, _, _, rfl, ht, TT.cl, TT.frames, rfl, .inl ⟨rfl, _, SqL.of hl⟩, T.l, _, _, rfl, rfl, hl, rfl, ?_⟩
    have ht1 : upd H T.l (.lst ([x] : List V).dropLast) t = some (.ins CT dt (tkF T)) := by rw [upd_ne ntl]; exact ht
    have hl1 := upd_same (H := H) (a := T.l) (o := .lst ([x] : List V).dropLast)
    refine ⟨_, rfl, t, CT, dt, _, _, rfl, ht1, TT.cl, TT.frames, rfl, _, .inl ⟨_, SqL.of hl1, rfl⟩, ?_⟩
    refine iteT ?_
    refine ⟨_, rfl, (by show 2 ≤ sizeLine; decide), fun r hr' => ?_⟩
    have nrl : r ≠ T.l := fun e => by rw [e, hl1] at hr'; cases hr'
    have nrt : r ≠ t := fun e => by rw [e, ht1] at hr'; cases hr'
    refine ⟨_, rfl, t, CT, dt, _, rfl, (by rw [upd_ne (Ne.symm nrt)]; exact ht1), TT.cl, TT.result, (by show 6 < 1000; decide), ?_⟩
    refine q r _ (by rw [upd_ne nrl] at hr'; exact hr') ?_ ?_ upd_same (fun a o na nl e => ?_)
    · rw [upd_ne nrt]; exact upd_same
    · rw [upd_ne (Ne.symm ntl), upd_ne (Ne.symm nrl)]; exact hl1
    · have nar : a ≠ r := fun z => by rw [z] at e; rw [upd_ne nrl] at hr'; rw [hr'] at e; cases e
      rw [upd_ne na, upd_ne nar, upd_ne nl]
      exact e
  · have ntl : t ≠ T.l := fun e => by rw [e, hl] at ht; cases ht
    have nyl : y ≠ T.l := fun e => by rw [e, hl] at hy; cases hy
    have ndl : F.d ≠ T.l := fun e => by rw [e, hl] at hd; cases hd
    have nal : a ≠ T.l := fun e => by rw [e, hl] at ha; cases ha
    have lst : ((fs ++ [V.ref y]) ++ [x])[((fs ++ [V.ref y]) ++ [x]).length - 1]? = some x := by
      rw [List.length_append, List.getElem?_append_right (by show (fs ++ [V.ref y]).length ≤ _; simp)]
      simp
    refine ⟨_, rfl, t, CT, dt, _, _, rfl, ht, TT.cl, TT.frames, rfl, .inl ⟨rfl, _, SqL.of hl⟩, T.l, _, _, rfl, rfl, hl, lst, ?_⟩
    rw [List.dropLast_concat]
    have ht1 : upd H T.l (.lst (fs ++ [V.ref y])) t = some (.ins CT dt (tkF T)) := by rw [upd_ne ntl]; exact ht
    have hy1 : upd H T.l (.lst (fs ++ [V.ref y])) y = some (.ins CF dy (frF F)) := by rw [upd_ne nyl]; exact hy
    have hc1 : upd H T.l (.lst (fs ++ [V.ref y])) F.c = some (.lst rows) := by rw [upd_ne ncl]; exact hc
    have hd1 : upd H T.l (.lst (fs ++ [V.ref y])) F.d = some (.dK kvs) := by rw [upd_ne ndl]; exact hd
    have ha1 : upd H T.l (.lst (fs ++ [V.ref y])) a = some (.tup (.str z :: .str nm :: ts)) := by rw [upd_ne nal]; exact ha
    have hl1 := upd_same (H := H) (a := T.l) (o := .lst (fs ++ [V.ref y]))
    have hJ1 := hJ.mono (H' := upd H T.l (.lst (fs ++ [V.ref y]))) (fun b us e => by rw [upd_ne (fun z => by rw [z, hl] at e; cases e)]; exact e)
    generalize upd H T.l (.lst (fs ++ [V.ref y])) = H1 at ht1 hy1 hc1 hd1 ha1 hl1 hJ1 q ⊢
    refine ⟨_, rfl, t, CT, dt, _, _, rfl, ht1, TT.cl, TT.frames, rfl, _, .inl ⟨_, SqL.of hl1, rfl⟩, ?_⟩
    have ne : (fs ++ [V.ref y]).isEmpty = false := by cases fs <;> rfl
    rw [ne]
    refine iteF ?_
    refine ⟨_, rfl, t, CT, dt, _, _, rfl, ht1, TT.cl, TT.frames, rfl, _, rfl, T.l, _, -1, _, rfl, rfl, SqL.of hl1, atI_last _ _, ?_⟩
    refine ⟨_, rfl, _, rfl, t, y, T, F, fs, rows, .ref a, rfl, ⟨dt, ht1⟩, hl1, ⟨dy, hy1⟩, hc1, hat, ?_⟩
    refine ⟨a, _, 1, _, rfl, rfl, SqT.of ha1, atI_nat (j := 1) rfl, _, rfl, ?_⟩
    exact ⟨y, dy, F, rows, kvs, nm, v, n, p1, rfl, hy1, hc1, hd1, hk, hJ1, q⟩
end
end SH

set_option Elab.async false
set_option linter.all false
set_option maxRecDepth 100000
namespace SH
open PySem L2
abbrev sDoRow : Stmt := topS 88
theorem scDoRow : FnScope ["task", "book", "results", "row", "frame", "word"] ["task", "book", "results"] (defScope sDoRow) := ⟨rfl, rfl, rfl, by decide +kernel, rfl, by decide +kernel, by decide +kernel⟩
/-- what a row does, by its word; go, call and wait as their own defs do them -/
def RowDoes (CB CT CF : Addr) (SG SC SW : Sp) (t a x dx : Addr) (bk rs : V) (F : FrSt) (rows : List V) (z : Str) (ts : List V) (H : Hp) (Q : VK) (E : XK) : Prop :=
  (z = "go" ∧ SG [.ref t, .ref a, bk] H Q E) ∨
  (z = "call" ∧ SC [.ref t, .ref a, bk] H (fun _ H' => Q .non H') E) ∨
  (z = "give" ∧ ∃ (e : Ex) (v : V) (env : Str → Option Wt), ts = [v] ∧ TrIn H e v ∧ Ex.low 6 e ∧ EnvIn H F.d env ∧ OutW CB H (fun u H1 => spGive CT CF [.ref t, u] H1 (fun _ H' => Q .non H') E0) E (e.ev env)) ∨
  (z = "fail" ∧ ∃ (e : Ex) (v : V) (env : Str → Option Wt), ts = [v] ∧ TrIn H e v ∧ Ex.low 6 e ∧ EnvIn H F.d env ∧ match e.evN env with
    | .ok i => Brk CB H E i
    | .error n => Brk CB H E n) ∨
  (z = "if" ∧ ∃ (e : Ex) (v : V) (env : Str → Option Wt) (p : Int), ts = [v, .int p] ∧ TrIn H e v ∧ Ex.low 6 e ∧ EnvIn H F.d env ∧ match e.evN env with
    | .ok i => ∃ (n : Nat) (p1 : Int), Jmp H rows n (if i = 0 then p else F.pl + 1) p1 ∧ Q .non (upd H x (.ins CF dx (frF { F with pl := p1 })))
    | .error n => Brk CB H E n) ∨
  (z = "wait" ∧ ∃ (nm : Str) (us : List V), ts = .str nm :: us ∧ SW [.ref a, .ref x, rs] H (fun u H1 => spNameMove CF [.ref x, .str nm, u] H1 (fun _ H' => Q .non H') E0) E) ∨
  (z ∉ (["go", "call", "give", "fail", "if", "wait"] : List Str) ∧ ∃ (nm : Str) (e : Ex) (v : V) (env : Str → Option Wt), ts = [.str nm, v] ∧ TrIn H e v ∧ Ex.low 6 e ∧ EnvIn H F.d env ∧ OutW CB H (fun u H1 => spNameMove CF [.ref x, .str nm, u] H1 (fun _ H' => Q .non H') E0) E (e.ev env))
def spDoRow (CB CT CF : Addr) (SG SC SW : Sp) : Sp := fun vs H Q E => ∃ (t x dx a : Addr) (T : TkSt) (F : FrSt) (fs rows ts : List V) (z : Str) (bk rs : V), vs = [.ref t, bk, rs] ∧ TkAt H CT t T ∧ H T.l = some (.lst (fs ++ [.ref x])) ∧ H x = some (.ins CF dx (frF F)) ∧ H F.c = some (.lst rows) ∧ atI rows F.pl = some (.ref a) ∧ H a = some (.tup (.str z :: ts)) ∧ RowDoes CB CT CF SG SC SW t a x dx bk rs F rows z ts H Q E
theorem Ex.evN_ok {env : Str → Option Wt} (he : ∀ nm x, env nm = some x → x.ok) {n : Nat} {e : Ex} {i : Int} (hl : Ex.low n e) (h : e.evN env = .ok i) : i.natAbs ≤ mostN := by
  unfold Ex.evN at h
  cases h1 : e.ev env with
  | error m => rw [h1] at h; cases h
  | ok x =>
    rw [h1] at h
    have := Ex.ev_ok he n e x hl h1
    cases x with
    | num j => cases h; exact this
    | fut p => cases h
theorem EnvIn.oks {H : Hp} {d : Addr} {env : Str → Option Wt} (e : EnvIn H d env) : ∀ nm x, env nm = some x → x.ok := fun nm x q => by
  obtain ⟨kvs, _, h⟩ := e.at_
  exact ((h nm).1 x q).1
section
variable {P : Program} {w : World} {K : PySem.W.Frag} {mg : Str → Option Value} {base : Heap} {CB fB : Addr} {B newId i0 : String} {bmB : List Value}
theorem ok_doRow {f a1 a2 a3 a4 a5 a6 a7 a8 a9 CT CF : Addr} {fd d1 d2 d3 d4 d5 d6 d7 d8 d9 : FuncData} {SG SC SW : Sp} (F : Fun K "do_row" "do_row" sDoRow f fd) (TT : TkT K CT) (FT : FrT K CF) (TB : SupC P K mg "Broken" "number" CB fB B newId i0 bmB)
    (NR : Fk P w K mg base 1 "next_row" a1 d1 ["task"] (spNextRow CT CF)) (ST : FkX P w K mg base 12 "start_task" a2 d2 ["task", "row", "book"] SG) (CW : FkX P w K mg base 12 "call_work" a3 d3 ["task", "row", "book"] SC) (GV : Fk P w K mg base 3 "give" a4 d4 ["task", "worth"] (spGive CT CF))
    (RE : FkX P w K mg base 8 "reckon" a5 d5 ["tree", "worths"] (spReckon CB 6)) (RN : FkX P w K mg base 9 "reckon_number" a6 d6 ["tree", "worths"] (spReckonN CB 6)) (MV : Fk P w K mg base 1 "move" a7 d7 ["frame", "place"] (spMove CF)) (NM : Fk P w K mg base 2 "name_and_move" a8 d8 ["frame", "name", "worth"] (spNameMove CF)) (WW : FkX P w K mg base 10 "wait_worth" a9 d9 ["row", "frame", "results"] SW) :
    FnOk P w K mg base (L2.CX P w) 13 f fd ["task", "book", "results"] (spDoRow CB CT CF SG SC SW) := by
  refine F.okX scDoRow (fun vs H Q E h => ?_) (fun cdv A outer s H vs Q E hr h => ?_)
  · obtain ⟨t, x, dx, a, T, F, fs, rows, ts, z, bk, rs, rfl, _⟩ := h
    rfl
  obtain ⟨t, x, dx, a, T, F, fs, rows, ts, z, bk, rs, rfl, ⟨dt, ht⟩, hl, hx, hc, hat, ha, R⟩ := h
  refine ⟨_, (pss_cons (ps_set (i := 3) scDoRow.nd rfl (Or.inl rfl) (pe_call NR.G (hr.mono (by omega)) (by rfl) NR.m NR.k NR.b .nil pass0 (pa_cons (pv 0) pa_nil)))
    (pss_cons (ps_set (i := 4) scDoRow.nd rfl (Or.inl rfl) (pe_ix ix_list (pe_fld (pv 0) rfl) (pe_un un_neg pe_int) (fun _ _ => rfl)))
    (pss_cons (ps_set (i := 5) scDoRow.nd rfl (Or.inl rfl) (pe_ix ix_tup (pv 3) pe_int (fun _ _ => rfl)))
    (pss_cons (ps_if (pt_cmpR op_eq (pv 5) pe_str (nomark _))
      (pss_one (ps_ret (pe_call ST.G (hr.mono (by omega)) (by rfl) ST.m ST.k ST.b .nil (passX (takes_of rfl rfl rfl rfl)) (pa_cons (pv 0) (pa_cons (pv 3) (pa_cons (pv 1) pa_nil))))))
      pss_nil)
    (pss_cons (ps_if (pt_cmpR op_eq (pv 5) pe_str (nomark _))
      (pss_one (ps_expr (pe_call CW.G (hr.mono (by omega)) (by rfl) CW.m CW.k CW.b .nil (passX (takes_of rfl rfl rfl rfl)) (pa_cons (pv 0) (pa_cons (pv 3) (pa_cons (pv 1) pa_nil))))))
      (pss_one (ps_if (pt_cmpR op_eq (pv 5) pe_str (nomark _))
      (pss_one (ps_expr (pe_call GV.G (hr.mono (by omega)) (by rfl) GV.m GV.k GV.b .nil pass0 (pa_cons (pv 0) (pa_cons (pe_call RE.G (hr.mono (by omega)) (by rfl) RE.m RE.k RE.b .nil (passX (takes_of rfl rfl rfl rfl)) (pa_cons (pe_ix ix_tup (pv 3) pe_int (fun _ _ => rfl)) (pa_cons (pe_fld (pv 4) rfl) pa_nil))) pa_nil)))))
      (pss_one (ps_if (pt_cmpR op_eq (pv 5) pe_str (nomark _))
      (pss_one (ps_raiseS rfl TB hr (takes_of rfl rfl rfl rfl) (pa_cons (pe_call RN.G (hr.mono (by omega)) (by rfl) RN.m RN.k RN.b .nil (passX (takes_of rfl rfl rfl rfl)) (pa_cons (pe_ix ix_tup (pv 3) pe_int (fun _ _ => rfl)) (pa_cons (pe_fld (pv 4) rfl) pa_nil))) pa_nil) rfl))
      (pss_one (ps_if (pt_cmpR op_eq (pv 5) pe_str (nomark _))
      (pss_one (ps_expr (pe_call MV.G (hr.mono (by omega)) (by rfl) MV.m MV.k MV.b .nil pass0 (pa_cons (pv 4) (pa_cons (pe_ifExp (pt_cmpR op_ne (pe_call RN.G (hr.mono (by omega)) (by rfl) RN.m RN.k RN.b .nil (passX (takes_of rfl rfl rfl rfl)) (pa_cons (pe_ix ix_tup (pv 3) pe_int (fun _ _ => rfl)) (pa_cons (pe_fld (pv 4) rfl) pa_nil))) pe_int (nomark _)) (pe_op op_add (pe_fld (pv 4) rfl) pe_int) (pe_ix ix_tup (pv 3) pe_int (fun _ _ => rfl))) pa_nil)))))
      (pss_one (ps_if (pt_cmpR op_eq (pv 5) pe_str (nomark _))
      (pss_one (ps_expr (pe_call NM.G (hr.mono (by omega)) (by rfl) NM.m NM.k NM.b .nil pass0 (pa_cons (pv 4) (pa_cons (pe_ix ix_tup (pv 3) pe_int (fun _ _ => rfl)) (pa_cons (pe_call WW.G (hr.mono (by omega)) (by rfl) WW.m WW.k WW.b .nil (passX (takes_of rfl rfl rfl rfl)) (pa_cons (pv 3) (pa_cons (pv 4) (pa_cons (pv 2) pa_nil)))) pa_nil))))))
      (pss_one (ps_expr (pe_call NM.G (hr.mono (by omega)) (by rfl) NM.m NM.k NM.b .nil pass0 (pa_cons (pv 4) (pa_cons (pe_ix ix_tup (pv 3) pe_int (fun _ _ => rfl)) (pa_cons (pe_call RE.G (hr.mono (by omega)) (by rfl) RE.m RE.k RE.b .nil (passX (takes_of rfl rfl rfl rfl)) (pa_cons (pe_ix ix_tup (pv 3) pe_int (fun _ _ => rfl)) (pa_cons (pe_fld (pv 4) rfl) pa_nil))) pa_nil)))))))))))))))
    (pss_one (ps_ret pe_non))))))), ?_⟩
  refine ⟨_, rfl, t, x, T, F, fs, rows, .ref a, rfl, ⟨dt, ht⟩, hl, ⟨dx, hx⟩, hc, hat, ?_⟩
  refine ⟨_, rfl, t, CT, dt, _, _, rfl, ht, TT.cl, TT.frames, rfl, _, rfl, T.l, _, -1, _, rfl, rfl, SqL.of hl, atI_last _ _, ?_⟩
  refine ⟨_, rfl, a, _, 0, _, rfl, rfl, SqT.of ha, atI_nat (j := 0) rfl, ?_⟩
  have no : ∀ {y : Str}, z ≠ y → decide (V.str z = V.str y) = false := fun h => decide_eq_false fun e => h (V.str.inj e)
  rcases R with ⟨rfl, R⟩ | ⟨rfl, R⟩ | ⟨rfl, e, v, env, rfl, hT, lo, hE, R⟩ | ⟨rfl, e, v, env, rfl, hT, lo, hE, R⟩ | ⟨rfl, e, v, env, p, rfl, hT, lo, hE, R⟩ | ⟨rfl, nm, us, rfl, R⟩ | ⟨nz, nm, e, v, env, rfl, hT, lo, hE, R⟩
  · refine ⟨_, rfl, rfl, _, rfl, ?_⟩
    rw [decide_eq_true rfl]
    exact iteT ⟨_, rfl, _, rfl, _, rfl, R⟩
  · refine ⟨_, rfl, rfl, _, rfl, ?_⟩
    rw [no (by decide +kernel)]
    refine iteF ⟨_, rfl, rfl, _, rfl, ?_⟩
    rw [decide_eq_true rfl]
    exact iteT ⟨_, rfl, _, rfl, _, rfl, R⟩
  · refine ⟨_, rfl, rfl, _, rfl, ?_⟩
    rw [no (by decide +kernel)]
    refine iteF ⟨_, rfl, rfl, _, rfl, ?_⟩
    rw [no (by decide +kernel)]
    refine iteF ⟨_, rfl, rfl, _, rfl, ?_⟩
    rw [decide_eq_true rfl]
    refine iteT ⟨_, rfl, _, rfl, a, _, 1, _, rfl, rfl, SqT.of ha, atI_nat (j := 1) rfl, _, rfl, x, CF, dx, _, _, rfl, hx, FT.cl, FT.worths, rfl, v, F.d, e, env, rfl, hT, lo, hE, ?_⟩
    exact R
  · refine ⟨_, rfl, rfl, _, rfl, ?_⟩
    rw [no (by decide +kernel)]
    refine iteF ⟨_, rfl, rfl, _, rfl, ?_⟩
    rw [no (by decide +kernel)]
    refine iteF ⟨_, rfl, rfl, _, rfl, ?_⟩
    rw [no (by decide +kernel)]
    refine iteF ⟨_, rfl, rfl, _, rfl, ?_⟩
    rw [decide_eq_true rfl]
    refine iteT ⟨_, rfl, a, _, 1, _, rfl, rfl, SqT.of ha, atI_nat (j := 1) rfl, _, rfl, x, CF, dx, _, _, rfl, hx, FT.cl, FT.worths, rfl, v, F.d, e, env, rfl, hT, lo, hE, ?_⟩
    cases h1 : e.evN env with
    | error m => rw [h1] at R; exact R
    | ok i =>
      rw [h1] at R
      exact ⟨_, rfl, .inr ⟨_, rfl, Nat.lt_trans (logB (Ex.evN_ok hE.oks lo h1)) (by decide)⟩, R⟩
  · refine ⟨_, rfl, rfl, _, rfl, ?_⟩
    rw [no (by decide +kernel)]
    refine iteF ⟨_, rfl, rfl, _, rfl, ?_⟩
    rw [no (by decide +kernel)]
    refine iteF ⟨_, rfl, rfl, _, rfl, ?_⟩
    rw [no (by decide +kernel)]
    refine iteF ⟨_, rfl, rfl, _, rfl, ?_⟩
    rw [no (by decide +kernel)]
    refine iteF ⟨_, rfl, rfl, _, rfl, ?_⟩
    rw [decide_eq_true rfl]
    refine iteT ⟨_, rfl, _, rfl, a, _, 1, _, rfl, rfl, SqT.of ha, atI_nat (j := 1) rfl, _, rfl, x, CF, dx, _, _, rfl, hx, FT.cl, FT.worths, rfl, v, F.d, e, env, rfl, hT, lo, hE, ?_⟩
    cases h1 : e.evN env with
    | error m => rw [h1] at R; exact R
    | ok i =>
      rw [h1] at R
      obtain ⟨n, p1, J, q⟩ := R
      refine ⟨rfl, _, rfl, ?_⟩
      refine ite2 (fun c => ?_) (fun c => ?_)
      · have i0 : i ≠ 0 := fun z => by
          rw [z] at c
          exact absurd c (by decide +kernel)
        rw [if_neg i0] at J
        exact ⟨_, rfl, x, CF, dx, _, _, rfl, hx, FT.cl, FT.place, rfl, _, _, rfl, rfl, x, dx, F, rows, n, _, p1, rfl, hx, hc, J, q⟩
      · have i0 : i = 0 := by
          rcases Classical.em (i = 0) with h | h
          · exact h
          · exact absurd (by
              show (!decide (V.int i = V.int 0)) = true
              rw [decide_eq_false (fun z => h (V.int.inj z))]
              rfl) c
        rw [if_pos i0] at J
        exact ⟨_, rfl, a, _, 2, _, rfl, rfl, SqT.of ha, atI_nat (j := 2) rfl, x, dx, F, rows, n, _, p1, rfl, hx, hc, J, q⟩
  · refine ⟨_, rfl, rfl, _, rfl, ?_⟩
    rw [no (by decide +kernel)]
    refine iteF ⟨_, rfl, rfl, _, rfl, ?_⟩
    rw [no (by decide +kernel)]
    refine iteF ⟨_, rfl, rfl, _, rfl, ?_⟩
    rw [no (by decide +kernel)]
    refine iteF ⟨_, rfl, rfl, _, rfl, ?_⟩
    rw [no (by decide +kernel)]
    refine iteF ⟨_, rfl, rfl, _, rfl, ?_⟩
    rw [no (by decide +kernel)]
    refine iteF ⟨_, rfl, rfl, _, rfl, ?_⟩
    rw [decide_eq_true rfl]
    exact iteT ⟨_, rfl, _, rfl, a, _, 1, _, rfl, rfl, SqT.of ha, atI_nat (j := 1) rfl, _, rfl, _, rfl, _, rfl, R⟩
  · refine ⟨_, rfl, rfl, _, rfl, ?_⟩
    rw [no (fun e => nz (by rw [e]; decide +kernel))]
    refine iteF ⟨_, rfl, rfl, _, rfl, ?_⟩
    rw [no (fun e => nz (by rw [e]; decide +kernel))]
    refine iteF ⟨_, rfl, rfl, _, rfl, ?_⟩
    rw [no (fun e => nz (by rw [e]; decide +kernel))]
    refine iteF ⟨_, rfl, rfl, _, rfl, ?_⟩
    rw [no (fun e => nz (by rw [e]; decide +kernel))]
    refine iteF ⟨_, rfl, rfl, _, rfl, ?_⟩
    rw [no (fun e => nz (by rw [e]; decide +kernel))]
    refine iteF ⟨_, rfl, rfl, _, rfl, ?_⟩
    rw [no (fun e => nz (by rw [e]; decide +kernel))]
    refine iteF ⟨_, rfl, _, rfl, a, _, 1, _, rfl, rfl, SqT.of ha, atI_nat (j := 1) rfl, _, rfl, a, _, 2, _, rfl, rfl, SqT.of ha, atI_nat (j := 2) rfl, _, rfl, x, CF, dx, _, _, rfl, hx, FT.cl, FT.worths, rfl, v, F.d, e, env, rfl, hT, lo, hE, ?_⟩
    exact R
end
end SH

set_option Elab.async false
set_option linter.all false
set_option maxRecDepth 100000
namespace SH
open PySem L2
abbrev sTryRow : Stmt := topS 87
theorem scTryRow : FnScope ["task", "book", "results", "word", "started", "failure"] ["task", "book", "results"] (defScope sTryRow) := ⟨rfl, rfl, rfl, by decide +kernel, rfl, by decide +kernel, by decide +kernel⟩
/-- f(e, ..), what it raises wished for at the caller's slots -/
def tCallX (sp : Sp) (E : L2.St → XK) (t : TA) : TE := fun σ H Q => t σ H fun vs H1 => sp vs H1 Q (E σ)
theorem pe_callX {X : Cx} {CX : CXT} {k : Nat} {f : Addr} {fd : FuncData} {ps : List Str} {sp : Sp} {E : L2.St → XK} {x : Str} {p pos : Pos} {e : Expr} {es : List Expr} {t : TA} (F : FnOk X.prog X.w X.K X.mg X.base CX k f fd ps sp) (hr : Room k X.A) (hg : Gl X x) (hm : X.mg x = some (.ref f)) (hk : PySem.W.keepIn X.K (.ref f) = true) (hb : Binds X.K fd ps []) (hx : ∀ σ, PassesAt CX X σ (E σ)) (ha : PA X (e :: es) t)
    (hdb : (x == ("__debug__" : Str)) = false := by decide) (he : starEach (e :: es) X.env = (false, eval e X.env) :: starEach es X.env := by rfl) (hpl : (backTo pos (starEach es X.env)).any (·.1) = false := by rfl) :
    PE X (.Call (.Name x p) (e :: es) [] pos) (tCallX sp E t) := by
  constructor
  intro pins s σ H Q I h
  refine wpAny_Call_Name_kw (ld_glob I hg hm ?_ hdb)
  refine PySem.W.callWith_K (h₀ := X.base) I.ok.mod.kin hk (thn (ha.run pos pins s σ H _ I h) ?_) he hpl
  rintro us s1 ⟨vs, H1, I1, r, q⟩
  exact ⟨I1.kIn, run_fnS F hr hb (hx σ) I1 r q⟩
theorem pe_bm0K {X : Cx} {o : Expr} {to : TE} {name : Str} {apos cpos : Pos} {T id : String} {r : V → List V → Hp → VK → Prop} (K : PySem.W.Frag) (h : X.K = K) (h1 : PlainAttrs T) (h2 : Slot T name id) (h3 : typeOf (.builtin id) = pure (.type "method_descriptor")) (h4 : MtR X id r) (h5 : PE X o to)
    (h6 : attributeBase o name X.env (eval o X.env) = eval o X.env := by rfl) (h7 : (apos.endLine == cpos.line) = true := by rfl) : PE X (.Call (.Attribute o name apos) [] [] cpos) (tBM0 K T r to) := h ▸ pe_bm0 h1 h2 h3 h4 h5 h6 h7
theorem ps_fldK {X : Cx} {o value : Expr} {f : Str} {pos pos' : Pos} {ta tv : TE} (K : PySem.W.Frag) (h : X.K = K) (ho : PE X o ta) (hv : PE X value tv) (hs : swapsWith value (some (.Attribute o f pos')) pos.line X.env = pure false) : PS X (.Assign [.Attribute o f pos'] value pos) (sFld K ta tv f) := h ▸ ps_fld ho hv hs
def MonoSp (sp : Sp) : Prop := ∀ (vs : List V) (H : Hp) (Q Q' : VK) (E E' : XK), (∀ v H, Q v H → Q' v H) → (∀ c d H, E c d H → E' c d H) → sp vs H Q E → sp vs H Q' E'
theorem monoNM {CF : Addr} : MonoSp (spNameMove CF) := by
  rintro vs H Q Q' E E' hQ hE ⟨x, dx, F, rows, kvs, nm, v, n, p1, e, h1, h2, h3, h4, h5, q⟩
  exact ⟨x, dx, F, rows, kvs, nm, v, n, p1, e, h1, h2, h3, h4, h5, hQ _ _ q⟩
theorem monoGive {CT CF : Addr} : MonoSp (spGive CT CF) := by
  rintro vs H Q Q' E E' hQ hE ⟨t, dt, T, v, e, ht, h⟩
  refine ⟨t, dt, T, v, e, ht, ?_⟩
  rcases h with ⟨x, hl, q⟩ | ⟨x, fs, y, dy, a, F, rows, ts, kvs, z, nm, n, p1, hl, hy, hc, ncl, hat, ha, hd, hk, hJ, q⟩
  · exact .inl ⟨x, hl, fun r H' h1 h2 h3 h4 h5 => hQ _ _ (q r H' h1 h2 h3 h4 h5)⟩
  · exact .inr ⟨x, fs, y, dy, a, F, rows, ts, kvs, z, nm, n, p1, hl, hy, hc, ncl, hat, ha, hd, hk, hJ, hQ _ _ q⟩
theorem OutW.mono {CB : Addr} {H : Hp} {Q Q' : VK} {E E' : XK} (hQ : ∀ v H, Q v H → Q' v H) (hE : ∀ c d H, E c d H → E' c d H) : ∀ {r : Except Int Wt}, OutW CB H Q E r → OutW CB H Q' E' r
  | .ok _, h => fun v hv => hQ _ _ (h v hv)
  | .error _, h => fun x hx => hE _ _ _ (h x hx)
theorem RowDoes.mono {CB CT CF : Addr} {SG SC SW : Sp} (mG : MonoSp SG) (mC : MonoSp SC) (mW : MonoSp SW) {t a x dx : Addr} {bk rs : V} {F : FrSt} {rows : List V} {z : Str} {ts : List V} {H : Hp} {Q Q' : VK} {E E' : XK} (hQ : ∀ v H, Q v H → Q' v H) (hE : ∀ c d H, E c d H → E' c d H)
    (R : RowDoes CB CT CF SG SC SW t a x dx bk rs F rows z ts H Q E) : RowDoes CB CT CF SG SC SW t a x dx bk rs F rows z ts H Q' E' := by
  have brk : ∀ n, Brk CB H E n → Brk CB H E' n := fun n h y hy => hE _ _ _ (h y hy)
  rcases R with ⟨e0, R⟩ | ⟨e0, R⟩ | ⟨e0, e, v, env, e1, hT, lo, hEn, R⟩ | ⟨e0, e, v, env, e1, hT, lo, hEn, R⟩ | ⟨e0, e, v, env, p, e1, hT, lo, hEn, R⟩ | ⟨e0, nm, us, e1, R⟩ | ⟨nz, nm, e, v, env, e1, hT, lo, hEn, R⟩
  · exact .inl ⟨e0, mG _ _ _ _ _ _ hQ hE R⟩
  · exact .inr (.inl ⟨e0, mC _ _ _ _ _ _ (fun _ _ h => hQ _ _ h) hE R⟩)
  · exact .inr (.inr (.inl ⟨e0, e, v, env, e1, hT, lo, hEn, R.mono (fun u H1 h => monoGive _ _ _ _ _ _ (fun _ _ h => hQ _ _ h) (fun _ _ _ h => h) h) hE⟩))
  · refine .inr (.inr (.inr (.inl ⟨e0, e, v, env, e1, hT, lo, hEn, ?_⟩)))
    cases h1 : e.evN env with
    | ok i => rw [h1] at R; exact brk _ R
    | error i => rw [h1] at R; exact brk _ R
  · refine .inr (.inr (.inr (.inr (.inl ⟨e0, e, v, env, p, e1, hT, lo, hEn, ?_⟩))))
    cases h1 : e.evN env with
    | ok i => rw [h1] at R; obtain ⟨n, p1, J, q⟩ := R; exact ⟨n, p1, J, hQ _ _ q⟩
    | error i => rw [h1] at R; exact brk _ R
  · exact .inr (.inr (.inr (.inr (.inr (.inl ⟨e0, nm, us, e1, mW _ _ _ _ _ _ (fun u H1 h => monoNM _ _ _ _ _ _ (fun _ _ h => hQ _ _ h) (fun _ _ _ h => h) h) hE R⟩)))))
  · exact .inr (.inr (.inr (.inr (.inr (.inr ⟨nz, nm, e, v, env, e1, hT, lo, hEn, R.mono (fun u H1 h => monoNM _ _ _ _ _ _ (fun _ _ h => hQ _ _ h) (fun _ _ _ h => h) h) hE⟩)))))
/-- the task has ended with a number that it fails with -/
def Failed (CB CT t dt : Addr) (T : TkSt) (Q : VK) : XK := fun cls d H1 => ∃ (dd : Addr) (n : Int) (xs : List V), cls = .ref CB ∧ d = some dd ∧ H1 dd = some (.xd [("number", .int n)]) ∧ H1 t = some (.ins CT dt (tkF T)) ∧ H1 T.l = some (.lst xs) ∧
  ∀ (r p : Addr) (H2 : Hp), H1 r = none → H2 r = some (.tup [.str "fails", .int n]) → H2 T.l = some (.lst []) → H2 t = some (.ins CT dt (tkF { T with res := .ref r })) → H2 p = some (.tup [.non, .bl false]) → (∀ a o, a ≠ t → a ≠ T.l → H1 a = some o → H2 a = some o) → Q (.ref p) H2
def spTryRow (CB CT CF : Addr) (SG SC SW : Sp) : Sp := fun vs H Q E => ∃ (t dt x dx a : Addr) (T : TkSt) (F : FrSt) (fs rows ts : List V) (z : Str) (bk rs : V), vs = [.ref t, bk, rs] ∧ H t = some (.ins CT dt (tkF T)) ∧ H T.l = some (.lst (fs ++ [.ref x])) ∧ H x = some (.ins CF dx (frF F)) ∧ H F.c = some (.lst rows) ∧ atI rows F.pl = some (.ref a) ∧ H a = some (.tup (.str z :: ts)) ∧
  RowDoes CB CT CF SG SC SW t a x dx bk rs F rows z ts H (fun v H1 => ∀ p H2, Same H1 H2 → H2 p = some (.tup [v, .bl (inV (.str z) [V.str "go", .str "call"])]) → Q (.ref p) H2) (Failed CB CT t dt T Q)
section
variable {P : Program} {w : World} {K : PySem.W.Frag} {mg : Str → Option Value} {base : Heap} {CB fB : Addr} {B newId i0 : String} {bmB : List Value}
theorem ok_tryRow {f a1 a2 CT CF : Addr} {fd d1 d2 : FuncData} {SG SC SW : Sp} (F : Fun K "try_row" "try_row" sTryRow f fd) (TT : TkT K CT) (mG : MonoSp SG) (mC : MonoSp SC) (mW : MonoSp SW)
    (NR : Fk P w K mg base 1 "next_row" a1 d1 ["task"] (spNextRow CT CF)) (DR : FkX P w K mg base 13 "do_row" a2 d2 ["task", "book", "results"] (spDoRow CB CT CF SG SC SW))
    (gB : mg "Broken" = some (.ref CB)) (te : PySem.W.exmOne K (.ref CB) (.ref CB) = some true) (XF : XfC K CB) (noN : PySem.W.findIn K (.ref CB) "number" = some none) :
    FnOk P w K mg base CX0 14 f fd ["task", "book", "results"] (spTryRow CB CT CF SG SC SW) := by
  refine F.ok scTryRow (fun vs H Q E h => ?_) (fun cdv A outer s H vs Q E hr h => ?_)
  · obtain ⟨t, dt, x, dx, a, T, F, fs, rows, ts, z, bk, rs, rfl, _⟩ := h
    rfl
  obtain ⟨t, dt, x, dx, a, T, F, fs, rows, ts, z, bk, rs, rfl, ht, hl, hx, hc, hat, ha, R⟩ := h
  refine ⟨_, (pss_cons (ps_set (i := 3) scTryRow.nd rfl (Or.inl rfl) (pe_ix ix_tup (pe_call NR.G (hr.mono (by omega)) (by rfl) NR.m NR.k NR.b .nil pass0 (pa_cons (pv 0) pa_nil)) pe_int (fun _ _ => rfl)))
    (pss_cons (ps_try_as (i := 5) rfl rfl scTryRow.nd rfl rfl ⟨rfl, by decide, .inl gB⟩ takes0 (fun W pn xe tk _ => pss_one (ps_set (i := 4) scTryRow.nd rfl (Or.inl rfl) (pe_callX DR.G (hr.mono (by omega)) (by rfl) DR.m DR.k DR.b (fun σ => passAt tk σ) (pa_cons (pv 0) (pa_cons (pv 1) (pa_cons (pv 2) pa_nil))))))
      (fun a oe cls d pn hz hf => pss_cons (ps_expr (pe_bm0K K rfl PySem.F.plainAttrs_list PySem.F.slot_list_clear PySem.F.type_list_clear mt_clear (pe_fldK K rfl (pv 0) rfl))) (pss_cons (ps_fldK K rfl (pv 0) (pe_tup (pa_cons pe_str (pa_cons (pe_xf XF noN hz hf (pv 5)) pa_nil))) rfl) (pss_one (ps_ret (pe_tup (pa_cons pe_non (pa_cons pe_bl pa_nil))))))))
    (pss_one (ps_ret (pe_tup (pa_cons (pv 4) (pa_cons (pe_cmpR op_in_seq (pv 3) (pe_tup (pa_cons pe_str (pa_cons pe_str pa_nil))) rfl) pa_nil))))))), ?_⟩
  refine ⟨_, rfl, t, x, T, F, fs, rows, .ref a, rfl, ⟨dt, ht⟩, hl, ⟨dx, hx⟩, hc, hat, a, _, 0, _, rfl, rfl, SqT.of ha, atI_nat (j := 0) rfl, ?_⟩
  refine ⟨_, rfl, _, rfl, _, rfl, t, x, dx, a, T, F, fs, rows, ts, z, bk, rs, rfl, ⟨dt, ht⟩, hl, hx, hc, hat, ha, ?_⟩
  refine R.mono mG mC mW (fun v H1 q => ?_) (fun cls d H1 fl => ?_)
  · refine ⟨_, rfl, _, rfl, (by show 2 ≤ sizeLine; decide), fun p1 n1 => ?_⟩
    refine ⟨p1, _, rfl, .inr (SqT.of upd_same), rfl, rfl, (by show 2 ≤ sizeLine; decide), fun p n2 => ?_⟩
    exact q p _ ((same_new n1 _).trans (same_new n2 _)) upd_same
  · obtain ⟨dd, n, xs, rfl, rfl, hd, ht1, hl1, q⟩ := fl
    refine ⟨true, te, fun _ a0 _ => ?_, fun q => Bool.noConfusion q⟩
    refine ⟨_, rfl, t, CT, dt, _, _, rfl, ht1, TT.cl, TT.frames, rfl, .inl ⟨rfl, _, SqL.of hl1⟩, ?_⟩
    have ntl : t ≠ T.l := fun e => by rw [e, hl1] at ht1; cases ht1
    have ndl : dd ≠ T.l := fun e => by rw [e, hl1] at hd; cases hd
    refine ⟨T.l, _, rfl, rfl, hl1, ?_⟩
    have ht2 : upd H1 T.l (.lst []) t = some (.ins CT dt (tkF T)) := by rw [upd_ne ntl]; exact ht1
    have hd2 : upd H1 T.l (.lst []) dd = some (.xd [("number", .int n)]) := by rw [upd_ne ndl]; exact hd
    refine ⟨_, rfl, rfl, rfl, dd, _, _, rfl, hd2, rfl, (by show 2 ≤ sizeLine; decide), fun r hr' => ?_⟩
    have nrl : r ≠ T.l := fun e => by rw [e, upd_same] at hr'; cases hr'
    have nrt : r ≠ t := fun e => by rw [e, ht2] at hr'; cases hr'
    have hr1 : H1 r = none := by rw [upd_ne nrl] at hr'; exact hr'
    refine ⟨_, rfl, t, CT, dt, _, rfl, (by rw [upd_ne (Ne.symm nrt)]; exact ht2), TT.cl, TT.result, (by show 6 < 1000; decide), ?_⟩
    refine ⟨(by show 2 ≤ sizeLine; decide), fun p hp => ?_⟩
    have s9 := same_new hp (.tup [V.non, .bl false])
    refine q r p _ hr1 (s9 _ _ ?_) (s9 _ _ ?_) (s9 _ _ upd_same) upd_same (fun a o na nl e => s9 _ _ ?_)
    · rw [upd_ne nrt]; exact upd_same
    · rw [upd_ne (Ne.symm ntl), upd_ne (Ne.symm nrl)]; exact upd_same
    · have nar : a ≠ r := fun z => by rw [z, hr1] at e; cases e
      rw [upd_ne na, upd_ne nar, upd_ne nl]
      exact e
end
end SH

set_option Elab.async false
set_option linter.all false
set_option maxRecDepth 100000
namespace SH
open PySem L2
abbrev sWaited : Stmt := topS 85
theorem scWaited : FnScope ["task", "row", "worth"] ["task"] (defScope sWaited) := ⟨rfl, rfl, rfl, by decide +kernel, rfl, by decide +kernel, by decide +kernel⟩
/-- also of None -/
def spIsFutN : Sp := fun vs H Q E => spIsFut vs H Q E ∨ (vs = [.non] ∧ Q (.bl false) H)
/-- the path of the task for which the next row waits -/
def spWaited (CT CF : Addr) : Sp := fun vs H Q _ => ∃ (t x a : Addr) (T : TkSt) (F : FrSt) (fs rows ts : List V) (z : Str), vs = [.ref t] ∧ TkAt H CT t T ∧ H T.l = some (.lst (fs ++ [.ref x])) ∧ FrAt H CF x F ∧ H F.c = some (.lst rows) ∧ atI rows F.pl = some (.ref a) ∧ H a = some (.tup (.str z :: ts)) ∧
  ((z ≠ "wait" ∧ Q .non H) ∨ (z = "wait" ∧ ∃ (u : V) (nm : Str) (us : List V) (env : Str → Option Wt), ts = u :: .str nm :: us ∧ EnvIn H F.d env ∧ match env nm with
    | some (.fut p) => ∀ b, H b = some (.tup (p.map V.int)) → Q (.ref b) H
    | _ => Q .non H))
section
variable {P : Program} {w : World} {K : PySem.W.Frag} {mg : Str → Option Value} {base : Heap}
theorem ok_isFutN {f : Addr} {fd : FuncData} (F : Fun K "is_future" "is_future" sIsFut f fd) (T : Bi mg) (mt : mg "tuple" = none) : FnOk P w K mg base CX0 1 f fd ["worth"] spIsFutN := by
  refine F.ok scIsFut (fun vs H Q E h => ?_) (fun cdv A outer s H vs Q E hr h => ?_)
  · rcases h with ⟨v, x, rfl, _⟩ | ⟨rfl, _⟩ <;> rfl
  refine ⟨_, (pss_one (ps_ret (pe_callB call_isi (by rfl) T.isinstance (by decide +kernel) (pa_cons (pv 0) (pa_cons (pe_bltn (v := .ty "tuple") (by rfl) mt (by decide +kernel) rfl) pa_nil))))), ?_⟩
  rcases h with ⟨v, x, rfl, hx, q⟩ | ⟨rfl, q⟩
  · cases x with
    | num i =>
      cases hx
      exact ⟨_, rfl, _, _, _, _, false, rfl, .ty "tuple", .base (.int i), kit_ty (by decide +kernel), q⟩
    | fut p =>
      obtain ⟨a, b, rfl, ha, hb⟩ := hx
      exact ⟨_, rfl, _, _, _, _, true, rfl, .ty "tuple", .base (.tup ha), kit_ty (by decide +kernel), q⟩
  · exact ⟨_, rfl, _, _, _, _, false, rfl, .ty "tuple", .base .non, kit_ty (by decide +kernel), q⟩
theorem ok_waited {f a1 a2 CT CF : Addr} {fd d1 d2 : FuncData} (F : Fun K "waited_path" "waited_path" sWaited f fd) (TT : TkT K CT) (FT : FrT K CF) (NR : Fk P w K mg base 1 "next_row" a1 d1 ["task"] (spNextRow CT CF)) (FU : Fk P w K mg base 1 "is_future" a2 d2 ["worth"] spIsFutN) : FnOk P w K mg base CX0 2 f fd ["task"] (spWaited CT CF) := by
  refine F.ok scWaited (fun vs H Q E h => ?_) (fun cdv A outer s H vs Q E hr h => ?_)
  · obtain ⟨t, x, a, T, F, fs, rows, ts, z, rfl, _⟩ := h
    rfl
  obtain ⟨t, x, a, T, F, fs, rows, ts, z, rfl, ⟨dt, ht⟩, hl, ⟨dx, hx⟩, hc, hat, ha, R⟩ := h
  refine ⟨_, (pss_cons (ps_set (i := 1) scWaited.nd rfl (Or.inl rfl) (pe_call NR.G (hr.mono (by omega)) (by rfl) NR.m NR.k NR.b .nil pass0 (pa_cons (pv 0) pa_nil)))
    (pss_cons (ps_if (pt_cmpR op_ne (pe_ix ix_tup (pv 1) pe_int (fun _ _ => rfl)) pe_str (nomark _))
      (pss_one (ps_ret pe_non))
      pss_nil)
    (pss_cons (ps_set (i := 2) scWaited.nd rfl (Or.inl rfl) (pe_dget1 (hu_of hr) (pe_fld (pe_ix ix_list (pe_fld (pv 0) rfl) (pe_un un_neg pe_int) (fun _ _ => rfl)) rfl) (pe_ix ix_tup (pv 1) pe_int (fun _ _ => rfl)) ⟨rfl, by rfl, rfl, rfl⟩))
    (pss_one (ps_ret (pe_ifExp (pt_val (pe_call FU.G (hr.mono (by omega)) (by rfl) FU.m FU.k FU.b .nil pass0 (pa_cons (pv 2) pa_nil))) (pe_ix ix_tup (pv 2) pe_int (fun _ _ => rfl)) pe_non)))))), ?_⟩
  refine ⟨_, rfl, t, x, T, F, fs, rows, .ref a, rfl, ⟨dt, ht⟩, hl, ⟨dx, hx⟩, hc, hat, ?_⟩
  refine ⟨_, rfl, a, _, 0, _, rfl, rfl, SqT.of ha, atI_nat (j := 0) rfl, rfl, _, rfl, ?_⟩
  rcases R with ⟨nz, q⟩ | ⟨rfl, u, nm, us, env, rfl, hE, R⟩
  · refine ite2 (fun _ => q) (fun c => absurd ?_ c)
    show (!decide (V.str z = V.str "wait")) = true
    rw [decide_eq_false (fun e => nz (V.str.inj e))]
    rfl
  refine ite2 (fun c => absurd c (by decide +kernel)) (fun _ => ?_)
  obtain ⟨kvs, hd, hk⟩ := hE.at_
  have D : DGet H F.d (.str nm) (valV kvs (Sum.inr nm)) := DGet.k (k := Sum.inr nm) hd
  refine ⟨_, rfl, t, CT, dt, _, _, rfl, ht, TT.cl, TT.frames, rfl, _, rfl, T.l, _, -1, _, rfl, rfl, SqL.of hl, atI_last _ _, x, CF, dx, _, _, rfl, hx, FT.cl, FT.worths, rfl, F.d, rfl, ?_, ?_⟩
  · exact .inl ⟨kvs, .inl hd⟩
  refine ⟨_, rfl, a, _, 2, _, rfl, rfl, SqT.of ha, atI_nat (j := 2) rfl, _, D, ?_⟩
  cases he : env nm with
  | none =>
    rw [he] at R
    rw [(hk nm).2 he]
    refine ⟨_, rfl, .inr ⟨rfl, _, rfl, ?_⟩⟩
    exact iteF R
  | some y =>
    rw [he] at R
    obtain ⟨_, v, e1, hv⟩ := (hk nm).1 y he
    rw [e1]
    refine ⟨_, rfl, .inl ⟨v, y, rfl, hv, _, rfl, ?_⟩⟩
    cases y with
    | num i => exact iteF R
    | fut p =>
      obtain ⟨a3, b, rfl, h3, hb⟩ := hv
      exact iteT ⟨_, rfl, a3, _, 1, _, rfl, rfl, SqT.of h3, atI_nat (j := 1) rfl, R b hb⟩
end
end SH

set_option Elab.async false
set_option linter.all false
set_option maxRecDepth 100000
/-! [elt for ..], where elt may raise what a def that it asks lets out. -/
namespace SH
open PySem PySem.Spec PyProof.Rows L2
theorem note_same {x : Value} {c d : Env} (h : c.frame = d.frame) : noteFrame x c = noteFrame x d := by
  unfold noteFrame PySem.frameOf
  rw [h]
theorem framesAt {g k G K' : Heap} : ∀ {l : List Env}, g.FunFrames G l → (∀ L ∈ frs l, K'.get? L = none) → (∀ L ∈ frs l, ∀ o, g.get? L = some o → k.get? L = some o) → k.FunFrames K' l
  | [], _, _, _ => trivial
  | c :: l, ⟨hk, ⟨L, o, hf, _, ho, hd⟩, hr⟩, hn, hg => by
    have hL : L ∈ frs (c :: l) := List.mem_filterMap.mpr ⟨c, List.mem_cons_self, hf⟩
    have sub : ∀ b ∈ frs l, b ∈ frs (c :: l) := fun b hb => let ⟨e, he, q⟩ := List.mem_filterMap.mp hb; List.mem_filterMap.mpr ⟨e, List.mem_cons_of_mem _ he, q⟩
    exact ⟨hk, ⟨L, o, hf, hn L hL, hg L hL o ho, hd⟩, framesAt hr (fun b hb => hn b (sub b hb)) fun b hb => hg b (sub b hb)⟩
/-- the block's context: what the def that is asked raises goes out -/
abbrev blkX (X : Cx) (s : Shared) (H : Hp) (scope : Scope) (ce : Env) (fp : List Addr) (E : XK) : Cx :=
  { X with s_0 := s, H_0 := H, env := ce, outer := X.stack, ex := fp, fn := fun x => scope.names.lookup x == some .cell, pn := [], xe := fun u s' => ∃ pins σ H1 s1, Inv (X.blk s H scope ce fp) pins σ H1 s1 ∧ L2.CX X.prog X.w X.stack H1 s1 E u s' }
section
variable {X : Cx} {pins pins' : List (Addr × Obj)} {σ σ' : L2.St} {H H1 : Hp} {s s1 : Shared} {scope : Scope} {ce : Env} {fp : List Addr} {E : XK}
theorem toX (I : Inv (X.blk s H scope ce fp) pins σ H1 s1) : Inv (blkX X s H scope ce fp E) pins σ H1 s1 :=
  ⟨⟨I.ok.mod, I.ok.kind, I.ok.glob, I.ok.blt, I.ok.above, I.ok.inj, I.ok.has, I.ok.cab, I.ok.hd, I.ok.frames, I.ok.stk, I.ok.exf, I.ok.bs, I.ok.bsz, I.ok.noex, I.ok.exfs, I.ok.funs, I.ok.frf⟩, I.os, I.bare, I.base, I.loc, I.cell, I.free, I.freeC, I.pin, I.hok, I.len⟩
theorem ofX (I : Inv (blkX X s H scope ce fp E) pins σ H1 s1) : Inv (X.blk s H scope ce fp) pins σ H1 s1 :=
  ⟨⟨I.ok.mod, I.ok.kind, I.ok.glob, I.ok.blt, I.ok.above, I.ok.inj, I.ok.has, I.ok.cab, I.ok.hd, I.ok.frames, I.ok.stk, I.ok.exf, I.ok.bs, I.ok.bsz, I.ok.noex, I.ok.exfs, I.ok.funs, I.ok.frf⟩, I.os, I.bare, I.base, I.loc, I.cell, I.free, I.freeC, I.pin, I.hok, I.len⟩
theorem passBlk : Passes (L2.CX X.prog X.w) (blkX X s H scope ce fp E) E := fun pins σ H1 s1 u s' I c => ⟨pins, σ, H1, s1, ofX I, c⟩
/-- what is to be shown of the end of a comprehension -/
def outPost (M : Model) (A : Around) (E : Value → Shared → Prop) (ce : Env) (x : Value) (s' : Shared) : Prop :=
  ∃ m, s'.heap.Ns ce.locals m ∧ ∀ k, Heap.SameBut ce.locals s'.heap k → wpAny M A (PySem.passOn "comprehension.variables-let-go" x ce : Sem Value) (fun _ _ => False) E { s' with heap := k }
theorem lc_out (hst : X.stack = X.env :: X.outer) (hf : X.env.frame = some X.env.locals) (tk : Takes X fun cls d _ H => E cls d H) (I : Inv X pins σ H s) (hfp : ∀ b ∈ fp, FpOk X pins H b) (cL : ce.locals = s.heap.objs.size) (cF : ce.frame = X.env.frame)
    (J : Inv (X.blk s H scope ce fp) pins' σ' H1 s1) {u : Value} {s' : Shared} (c : L2.CX X.prog X.w X.stack H1 s1 E u s') : notedBy (model X.prog X.w) X.A ce (outPost (model X.prog X.w) X.A X.xe ce) u s' := by
  obtain ⟨a, B, H2, cls, d, rfl, fl, hok, ub, na, os, ag, hE⟩ := c
  obtain ⟨m, ⟨oC, es, ep, hoC, hdC, rC⟩, _⟩ := J.loc
  have hoC : s1.heap.get? ce.locals = some oC := hoC
  have C1 : H1 ce.locals = none := J.free
  have Cn : ce.locals ∉ frs X.stack := fun z => by
    rw [cL] at z
    rcases List.mem_cons.mp (I.stkSub _ z) with e | e
    · exact absurd (e ▸ I.lt) (Nat.lt_irrefl _)
    · exact I.nofs (Nat.le_refl _) e
  have CB : B.get? ce.locals = some oC := ub.keep _ _ hoC C1 Cn
  have C2 : H2 ce.locals = none := ub.free _ _ hoC C1
  have low : ∀ b o, s.heap.get? b = some o → b ≠ ce.locals := fun b o e z => absurd (Heap.lt_size e) (by rw [z, cL]; exact Nat.lt_irrefl _)
  have hfr : X.A.frames = some (X.env :: X.outer) := by rw [I.ok.frames, hst]
  show wpAny _ _ (noteFrame (.ref a) ce) _ _ _
  rw [note_same cF]
  have st : B.StaysIn s'.heap := fl.1
  rw [hst] at fl
  refine HandSPX.looks_onZ Zc.steady hfr hf fl fun h1 hh up => ?_
  refine ⟨m, ⟨oC, es, ep, hh.1 _ _ CB, hdC, rC⟩, fun h2 sb => ?_⟩
  obtain ⟨hB, hn, hl, oe, vs, T, oT, ts, he, hz, hd, h1', hnT, hTe, hT, hdT, h3⟩ := hh
  have aC : a ≠ ce.locals := fun z => by rw [z, CB] at hn; cases hn
  have TC : T ≠ ce.locals := fun z => by rw [z, CB] at hnT; cases hnT
  obtain ⟨B', b1, b2⟩ := restrict B fun b => decide (b ≠ ce.locals)
  have bk : ∀ b o, b ≠ ce.locals → B.get? b = some o → B'.get? b = some o := fun b o hb e => (b1 b (decide_eq_true hb)).trans e
  have kb : ∀ b o, B'.get? b = some o → b ≠ ce.locals ∧ B.get? b = some o := fun b o e => by
    by_cases hb : b = ce.locals
    · rw [b2 b (decide_eq_false fun z => z hb)] at e; cases e
    · exact ⟨hb, (b1 b (decide_eq_true hb)).symm.trans e⟩
  have Bn : ∀ b, B.get? b = none → B'.get? b = none := fun b e => by
    cases q : B'.get? b with
    | none => rfl
    | some o => rw [(kb b o q).2] at e; cases e
  have hfl : HandSPX.HeldZ B' (X.env :: X.outer) a (Zc cls d) X.env.locals h2 := by
    refine ⟨fun b o e => ?_, Bn a hn, framesAt hl (fun L hL => Bn L ?_) (fun L hL o e => ?_), oe, vs, T, oT, ts, (sb.2 a aC).trans he, hz, hd, h1', Bn T hnT, hTe, (sb.2 T TC).trans hT, hdT, h3⟩
    · obtain ⟨x, y⟩ := kb b o e
      exact (sb.2 b x).trans (hB b o y)
    · exact (hl.mem hL).1
    · exact (sb.2 L fun z => Cn (by rw [← z, hst]; exact hL)).trans e
  show wpAny _ _ (PySem.passOn "comprehension.variables-let-go" (.ref a) ce : Sem Value) _ _ _
  unfold PySem.passOn
  refine wpAny_bind (wpAny_field ((sb.2 a aC).trans he) hd h1' ?_)
  rw [if_neg (show ¬ ((Value.ref T == Value.none) = true) from by simp), cF, hf]
  refine wpAny_bind (HandSPX.setFlight_onZ hfl fun h3 hh3 up3 => ?_)
  refine wpAny_throw (tk _ _ ?_)
  obtain ⟨G, g1, g2⟩ := restrict s'.heap fun b => ((B.get? b).isSome && decide (b ≠ ce.locals)) || decide (b ∈ frs X.stack)
  have gB : ∀ b o, b ≠ ce.locals → B.get? b = some o → G.get? b = some o := fun b o hb e => (g1 b (by simp [e, hb])).trans (st b o e)
  have gF : ∀ b, b ∈ frs X.stack → G.get? b = s'.heap.get? b := fun b hb => g1 b (by simp [hb])
  have og : ∀ b o, G.get? b = some o → s'.heap.get? b = some o ∧ b ≠ ce.locals ∧ (b ∈ frs X.stack ∨ B.get? b = some o) := fun b o e => by
    cases q : (((B.get? b).isSome && decide (b ≠ ce.locals)) || decide (b ∈ frs X.stack)) with
    | false => rw [g2 b q] at e; cases e
    | true =>
      rw [g1 b q] at e
      rcases Bool.or_eq_true_iff.mp q with q | q
      · obtain ⟨q1, q2⟩ := Bool.and_eq_true_iff.mp q
        obtain ⟨o', q3⟩ := Option.isSome_iff_exists.mp q1
        have z := st b o' q3
        rw [e] at z; cases z
        exact ⟨e, of_decide_eq_true q2, .inr q3⟩
      · exact ⟨e, fun z => Cn (z ▸ of_decide_eq_true q), .inl (of_decide_eq_true q)⟩
  refine ⟨a, B', { s1 with heap := G, gens := s'.gens, drawn := s'.drawn, toks := s'.toks }, pins, σ, H2, cls, d, rfl, ?_, fun b o e hb => ?_, fun b o e hnf => ?_, ?_, na, os, ag, hE⟩
  · refine I.call' (ch := fp) J.os ⟨fun b o e n hb hx => ?_, fun b o e n hb hx => ?_, fun b o e n hx => ?_, fun b o e hx => ?_, fun b xs e => ub.tups b xs (J.base.tups b xs e), fun b o xs e => ub.frzs b o xs (J.base.frzs b o xs e), fun b ps e => ?_⟩ (fun b o q => (hok b o q).stay (fun c v hc r => gB c v (fun z => ?_) r) (fun _ r => r) fun _ _ r => r) ag fun b hb => ⟨(hfp b hb).2.2.2.1, (hfp b hb).2.1, (hfp b hb).2.2.2.2.1, (hfp b hb).2.2.2.2.2⟩
    · exact gB b o (low b o e) (ub.keep b o (J.base.keep b o e n hb hx) (J.base.free b o e n hx) hb)
    · obtain ⟨sl, q⟩ := J.base.slot b o e n hb hx
      obtain ⟨sl2, q2⟩ := ub.slot b _ q hb
      exact ⟨sl2, (gF b hb).trans q2⟩
    · obtain ⟨o', q⟩ := J.base.there b o e hx
      exact ub.free b o' q (J.base.free b o e n hx)
    · obtain ⟨o', q⟩ := J.base.there b o e hx
      by_cases hb : b ∈ frs X.stack
      · obtain ⟨sl2, q2⟩ := ub.slot b _ q hb
        exact ⟨_, (gF b hb).trans q2⟩
      · obtain ⟨o2, q2⟩ := ub.there b o' q hb
        exact ⟨o2, gB b o2 (low b o e) q2⟩
    · obtain ⟨m1, q1⟩ := J.base.tbls b ps e
      obtain ⟨m2, q2⟩ := ub.tbls b _ q1
      exact ⟨m1 ++ m2, by rw [q2, Array.append_assoc]⟩
    · rcases hc with y | y
      · rw [← y, z, C2] at q; cases q
      · rw [z, C2] at y; cases y
  · obtain ⟨_, x, y⟩ := og b o e
    exact bk b o x (y.resolve_left hb)
  · obtain ⟨x, y, _⟩ := og b o e
    obtain ⟨sl1, q1⟩ := up b o x hnf
    obtain ⟨sl2, q2⟩ := up3 b _ ((sb.2 b y).trans q1) hnf
    exact ⟨sl2, q2⟩
  · rw [hst]
    exact .inr (.inr hh3)
end
/-- the end of a comprehension -/
def endPost (M : Model) (A : Around) (E : Value → Shared → Prop) (use : Option (Value → Sem Unit)) (Q : Value → Shared → Prop) (acc : Value) (ce : Env) : Result → Shared → Prop
  | .ok f, s' => compPost M A E use Q acc ce.locals (.ok f) s'
  | .error x, s' => outPost M A E ce x s'
theorem comp_any {M : Model} {A : Around} {E : Value → Shared → Prop} {s : Shared} {env : Env} {e : Expr} {scope : Scope} {pos : Pos} {mk one : Sem Value} {g : Comprehension} {gs : List Comprehension} {cl : List (Str × Addr)} {use : Option (Value → Sem Unit)} {Q : Value → Shared → Prop}
    (h1 : clausesOf e = g :: gs) (h2 : ∀ x, foldedSetIterable g.iter env x = pure x) (h3 : closureFor scope env = pure cl) (h4 : scope.kind = .function) (h5 : ∀ x ∈ scope.names, x.2 = .local → scope.names.lookup x.1 = some .local)
    (h : wpAny M A one (fun x s₁ => wpAny M A (pyIter x) (fun it s₂ => wpAny M A mk (fun acc s₃ => wpAny M A (newFunctionEnv scope env.globals cl [] env.qual none .none (some env)) (fun ce s₄ => codeAny M A (.compStart e 0 it acc { ce with scope := relabel scope env }) (endPost M A E use Q acc { ce with scope := relabel scope env }) s₄) E s₃) E s₂) E s₁) E s) :
    wpAny M A (comprehension e scope env pos mk false one use) Q E s := by
  unfold comprehension
  rw [h3, h1]
  refine wpAny_bind (wpAny_mono h (fun x s₁ k1 => wpAny_bind (wpAny_standAt (wpAny_bind (wpAny_of_eq (h2 x) (wpAny_bind (wpAny_holding (wpAny_mono k1 (fun it s₂ k2 => wpAny_standIf (wpAny_bind (wpAny_mono k2 (fun acc s₃ k3 => wpAny_bind (wpAny_pure (wpAny_bind (wpAny_mono k3 (fun ce s₄ k4 => ?_) fun _ _ z => z)))) fun _ _ z => z))) fun _ _ z => z))))))) fun _ _ z => z)
  dsimp only
  have v1 : ∀ x ∈ (scope.names.filter fun x => (x.2 == .local || x.2 == .cell) && x.1 != (".0" : Str)).reverse, x.2 = .local → Env.kindOf { ce with scope := relabel scope env } x.1 = some .local := fun x hx hl => by
    exact lookup_relabel_local (h5 x (List.mem_filter.mp (List.mem_reverse.mp hx)).1 hl)
  have v2 : ∀ x ∈ (scope.names.filter fun x => (x.2 == .local || x.2 == .cell) && x.1 != (".0" : Str)).reverse.drop 1 ++ (scope.names.filter fun x => (x.2 == .local || x.2 == .cell) && x.1 != (".0" : Str)).reverse.take 1, x.2 = .local → Env.kindOf { ce with scope := relabel scope env } x.1 = some .local := fun x hx hl =>
    (List.mem_append.mp hx).elim (fun z => v1 x (List.mem_of_mem_drop z) hl) fun z => v1 x (List.mem_of_mem_take z) hl
  refine wpAny_holding (wpAny_bind (wpAny_attempt (wpAny_holding (wpAny_run (codeAny_mono k4 fun r s' hr => ?_)))))
  cases r with
  | error x =>
    obtain ⟨m, hn, hr⟩ := (show outPost M A E { ce with scope := relabel scope env } x s' from hr)
    exact wpAny_bind (wpAny_holding (wpAny_comp_letGo (cenv := { ce with scope := relabel scope env }) h4 _ s' m v1 hn fun k _ _ hk => wpAny_mono (hr k hk) (fun _ _ z => z.elim) fun _ _ z => z))
  | ok f =>
    have hr : compPost M A E use Q acc ce.locals (.ok f) s' := hr
    cases use with
    | none =>
      obtain ⟨m, hn, hr⟩ := hr
      exact wpAny_bind (wpAny_holding (wpAny_comp_letGo (cenv := { ce with scope := relabel scope env }) h4 _ s' m v1 hn fun k _ _ hk => wpAny_pure (hr k hk)))
    | some u =>
      refine wpAny_bind (wpAny_rule (wpAny_bind (wpAny_holding (wpAny_mono hr (fun _ s'' hq => ?_) fun _ _ z => z))))
      obtain ⟨m, hn, hq⟩ := hq
      exact wpAny_bind (wpAny_comp_letGo (cenv := { ce with scope := relabel scope env }) h4 _ s'' m v2 hn fun k _ _ hk => wpAny_pure (hq k hk))
section
variable {X : Cx}
theorem lcX {pins : List (Addr × Obj)} {s : Shared} {σ : L2.St} {H : Hp} {Q : VK} {E : XK} {elt tg iter : Expr} {ifs : List Expr} {scope : Scope} {own : List (Str × Nat)} {pos pos' : Pos} {wi : TI} {g : TG} {tt : TT} {te : TE} {use : Option (Value → Sem Unit)} {Qf : Value → Shared → Prop}
    (hst : X.stack = X.env :: X.outer) (hf : X.env.frame = some X.env.locals) (tk : Takes X fun cls d _ H => E cls d H) (hc : X.calm = true) (hN : X.N.Nodup) (I : Inv X pins σ H s) (hi : PI X tg iter wi) (ok : BlkOk X.N X.env.scope scope own)
    (hg : ∀ (s : Shared) (H : Hp) (C : Addr) (cl : List (Str × Addr)) (fp : List Addr), PG (blkX X s H scope (compEnvC scope cl C X.env) fp E) tg g) (ht : ∀ (s : Shared) (H : Hp) (C : Addr) (cl : List (Str × Addr)) (fp : List Addr), PTs (blkX X s H scope (compEnvC scope cl C X.env) fp E) ifs tt)
    (he : ∀ (s : Shared) (H : Hp) (C : Addr) (cl : List (Str × Addr)) (fp : List Addr), PE (blkX X s H scope (compEnvC scope cl C X.env) fp E) elt te) (hfi : ∀ x, foldedSetIterable iter X.env x = pure x) (h : tLc wi g tt te (own.map (·.2)) σ H Q)
    (hRR : ∀ D C s' m H', Inv X pins σ H' s' → Q (.ref D) H' → s'.heap.Ns C m → FpOk X pins H' C → compPost (model X.prog X.w) X.A X.xe use Qf (.ref D) C (.ok .next) s') :
    wpAny (model X.prog X.w) X.A (comprehension (.ListComp elt [⟨tg, iter, ifs, 0⟩] scope pos) scope X.env pos' (newList []) false (eval iter X.env) use) Qf X.xe s := by
  have hfree : ∀ y ∈ scope.names, y.2 = .free → ∃ c, X.env.cells.lookup y.1 = some c := fun y hy e => (ok.free y hy e).elim (fun k => I.ok.has _ (.inl k)) fun k => I.ok.has _ (.inr k)
  refine comp_any (use := use) rfl hfi (closure_ok hfree) ok.kind (fun y hy e => by rw [ok.uniq y hy, e]) (thn (hi.run pins s σ H _ I h) fun xv s1 hx => thn hx fun itv s2 h2 => ?_)
  obtain ⟨it, fp, tn, J, H2, rfl, I2, T, st2, f2, q⟩ := h2
  refine wpAny_newObj_type (newEnv_comp ?_) (by show 0 ≤ sizeLine; decide)
  generalize hD : s2.heap.objs.size = D
  obtain ⟨W, ⟨m0, w0⟩, turn⟩ := q D (I2.hok.fresh (Nat.le_of_eq hD))
  generalize hs3 : ({ s2 with heap := s2.heap.push { cls := .type "list", data := .seq ([] : List Value).toArray } } : Shared) = s3
  have e3 : s3.heap = s2.heap.push { cls := .type "list", data := .seq ([] : List Value).toArray } := by rw [← hs3]
  have I3 : Inv X pins σ (upd H2 D (.lst [])) s3 := by
    rw [← hs3]
    exact I2.laid (t' := s2.toks) (fun b o e => Heap.get?_push_of_some _ e) (Nat.le_of_eq hD) ⟨Nat.zero_le _, [], 0, .nil, by rw [← hD]; exact Heap.get?_push_size _ rfl⟩
  have f3 : ∀ b ∈ fp, FpOk X pins (upd H2 D (.lst [])) b ∧ b < s3.heap.objs.size := fun b hb => by
    obtain ⟨o, e, _⟩ := T.obj _ _ st2 b hb
    have lt := Heap.lt_size e
    exact ⟨⟨(upd_ne (by rw [← hD]; exact Nat.ne_of_lt lt)).trans (f2 b hb).1, (f2 b hb).2⟩, by rw [e3, Heap.size_push]; exact Nat.lt_succ_of_lt lt⟩
  have st3 : tn 0 s3.heap := T.keep _ _ _ st2 fun b _ o e => by rw [e3]; exact Heap.get?_push_of_some _ e
  have I4 := toX (E := E) (block_start I3 ok hN f3)
  have pg := hg s3 (upd H2 D (.lst [])) s3.heap.objs.size (cellsFrom (s3.heap.objs.size + 1) scope.names (cloFrom X.env.cells scope.names [])) fp
  have pt := ht s3 (upd H2 D (.lst [])) s3.heap.objs.size (cellsFrom (s3.heap.objs.size + 1) scope.names (cloFrom X.env.cells scope.names [])) fp
  have pe := he s3 (upd H2 D (.lst [])) s3.heap.objs.size (cellsFrom (s3.heap.objs.size + 1) scope.names (cloFrom X.env.cells scope.names [])) fp
  show codeAny _ _ (.compStart (.ListComp elt [⟨tg, iter, ifs, 0⟩] scope pos) 0 (.ref it) (.ref D) (compEnvC scope (cellsFrom (s3.heap.objs.size + 1) scope.names (cloFrom X.env.cells scope.names [])) s3.heap.objs.size X.env)) (endPost (model X.prog X.w) X.A X.xe use Qf (.ref D) (compEnvC scope (cellsFrom (s3.heap.objs.size + 1) scope.names (cloFrom X.env.cells scope.names [])) s3.heap.objs.size X.env)) { s3 with heap := pushCells (s3.heap.push { cls := .type "dict", data := .dict #[] }) scope.names }
  generalize hce : compEnvC scope (cellsFrom (s3.heap.objs.size + 1) scope.names (cloFrom X.env.cells scope.names [])) s3.heap.objs.size X.env = ce at I4 pg pt pe ⊢
  have cL : ce.locals = s3.heap.objs.size := by subst hce; rfl
  have cF : ce.frame = X.env.frame := by subst hce; rfl
  have nfp : ∀ b ∈ fp, (upd H2 D (.lst [])) b = none := fun b hb => (f3 b hb).1.1
  generalize hH3 : upd H2 D (.lst []) = H3 at I3 I4 pg pt pe w0 nfp f3
  generalize hs4 : ({ s3 with heap := pushCells (s3.heap.push { cls := .type "dict", data := .dict #[] }) scope.names } : Shared) = s4 at I4 ⊢
  have st4 : tn 0 s4.heap := T.keep _ _ _ st3 fun b _ o e => by rw [← hs4]; exact pushCells_keeps _ _ _ _ (Heap.get?_push_of_some _ e)
  generalize hB : blkX X s3 H3 scope ce fp E = Y at I4 pg pt pe
  have Yp : Y.prog = X.prog ∧ Y.w = X.w ∧ Y.K = X.K ∧ Y.calm = X.calm ∧ Y.A = X.A ∧ Y.ex = fp ∧ Y.pn = [] ∧ Y.env = ce := by subst hB; exact ⟨rfl, rfl, rfl, rfl, rfl, rfl, rfl, rfl⟩
  obtain ⟨y1, y2, y3, y4, y5, y6, y7, y8⟩ := Yp
  have stat : ∀ {σ' : L2.St} {H' : Hp} {s' : Shared}, Inv Y [] σ' H' s' → (∀ b ∈ fp, H' b = none) → ∀ b ∈ fp, FpOk Y [] H' b := fun {σ' H' s'} I' hn b hb => by
    have hb' : b ∈ Y.ex := by rw [y6]; exact hb
    exact ⟨hn b hb, (I'.ok.exf b hb').1, I'.ok.exfs b hb', .inl hb', fun x c e => (I'.ok.exf b hb').2 x c e, fun p hp => by rw [y7] at hp; cases hp⟩
  have raised : ∀ u s', Y.xe u s' → notedBy (model X.prog X.w) X.A ce (fun e s'' => endPost (model X.prog X.w) X.A X.xe use Qf (.ref D) ce (.error e) s'') u s' := fun u s' hx => by
    subst hB
    obtain ⟨p1, σ1, H1, t1, J1, c1⟩ := hx
    exact lc_out hst hf tk I3 (fun b hb => (f3 b hb).1) cL cF J1 c1
  have loop : codeAny (model X.prog X.w) X.A (.compLoop (.ListComp elt [⟨tg, iter, ifs, 0⟩] scope pos) 0 (.ref it) (.ref D) ce) (endPost (model X.prog X.w) X.A X.xe use Qf (.ref D) ce) s4 := by
    refine compLoop_any (fun n s' => ∃ i H', Inv Y [] (wipe σ (own.map (·.2))) H' s' ∧ tn i s'.heap ∧ (∀ b ∈ fp, H' b = none) ∧ W i n H') ?_ m0 ⟨0, H3, I4, st4, nfp, w0⟩
    rintro n s5 ⟨i, H5, I5, st5, n5, w5⟩
    rcases turn i n H5 w5 with ⟨stop, qq⟩ | ⟨go, Nx, hNx, step⟩
    · have td := T.done Y y1 y2 y3 (y4.trans hc) i [] s5 _ H5 (fun _ _ => False) I5 (stat I5 n5) st5 stop
      rw [y5] at td
      refine thnF td fun r s6 ⟨hr, I6⟩ => ?_
      subst hr hB
      have I6 := ofX I6
      have I7 : Inv X pins σ H5 s6 := I3.call' (ch := fp) I6.os I6.base I6.hok I6.bare fun b hb => ⟨(f3 b hb).1.2.2.2.1, (f3 b hb).1.2.1, (f3 b hb).1.2.2.2.2.1, (f3 b hb).1.2.2.2.2.2⟩
      obtain ⟨m, hn, _⟩ := I6.loc
      show compPost _ _ _ _ _ _ ce.locals _ _
      rw [cL]
      exact hRR D s3.heap.objs.size s6 m H5 I7 qq (cL ▸ (show s6.heap.Ns ce.locals m from hn)) (I3.fpOk (Nat.le_refl _) (cL ▸ (show H5 ce.locals = none from I6.free)))
    · have ti := T.item Y y1 y2 y3 (y4.trans hc) i [] s5 _ H5 (fun _ _ => False) I5 (stat I5 n5) st5 go
      rw [y5] at ti
      refine thnF ti fun r s6 ⟨u, hr, h6⟩ => ?_
      subst hr
      refine thnF h6 fun _ s7 ⟨x, H7, I7, r7, z7, st7, n7⟩ => ?_
      have I7' := I7.pinned (stat I7 n7) (T.obj _ _ st7)
      have rg := pg.run _ s7 _ H7 x u _ I7' r7 (step x H7 z7)
      rw [y1, y2, y5, y8] at rg
      refine wpAny_mono rg (fun _ s8 ⟨σ8, H8, I8, hw8, q8⟩ => ?_) raised
      have rt := pt.run _ s8 σ8 H8 _ I8 q8
      rw [y1, y2, y5, y8] at rt
      refine wpAny_mono rt (fun b s9 ⟨H9, I9, q9⟩ => ?_) raised
      have fin : ∀ {s' : Shared} {H' : Hp}, Inv Y ([] ++ pinsAt fp s7.heap) σ8 H' s' → Nx H' → ∃ m, m < n ∧ ∃ i H', Inv Y [] (wipe σ (own.map (·.2))) H' s' ∧ tn i s'.heap ∧ (∀ b ∈ fp, H' b = none) ∧ W i m H' := fun {s' H'} I' nx => by
        obtain ⟨m', hm, w'⟩ := hNx H' nx
        have pin' : ∀ b ∈ fp, ∀ o, s7.heap.get? b = some o → s'.heap.get? b = some o ∧ H' b = none := fun b hb o e =>
          have z := I'.pin (b, o) (List.mem_append_right _ (List.mem_append_right _ (mem_pinsAt hb e)))
          ⟨z.1, z.2.1⟩
        refine ⟨m', hm, i + 1, H', (I'.unpinned (pins := [])).weak (by rw [← hw8, wipe_length]) (fun j v e => (wipe_some (hw8 ▸ e)).1), T.keep _ _ _ st7 fun b hb o e => (pin' b hb o e).1, fun b hb => ?_, w'⟩
        obtain ⟨o, e, _⟩ := T.obj _ _ st7 b hb
        exact (pin' b hb o e).2
      cases b with
      | false => exact fin I9 (by simpa using q9)
      | true =>
        simp only [if_true] at q9 ⊢
        have re := pe.run _ s9 σ8 H9 _ I9 q9
        rw [y1, y2, y5, y8] at re
        refine wpAny_mono re (fun z s10 ⟨yv, H10, I10, r10, acc, hD10, hz10, nx⟩ => ?_) raised
        have ra : wpAny (model Y.prog Y.w) Y.A (call (.builtin "list.append") [.ref D, z]) (fun _ s11 => ∃ m, m < n ∧ ∃ i H', Inv Y [] (wipe σ (own.map (·.2))) H' s11 ∧ tn i s11.heap ∧ (∀ b ∈ fp, H' b = none) ∧ W i m H') (notedBy (model X.prog X.w) X.A ce (fun e s'' => endPost (model X.prog X.w) X.A X.xe use Qf (.ref D) ce (.error e) s'')) s10 :=
          app_ok I10 hD10 hz10 r10 fun s11 I11 => fin I11 nx
        rw [y1, y2, y5] at ra
        exact ra
  exact codeAny_compStart_list loop (T.self X.A 0 _ _ _ st4 loop)
theorem pe_lcX {E : XK} {elt tg iter : Expr} {ifs : List Expr} {scope : Scope} {own : List (Str × Nat)} {pos : Pos} {wi : TI} {g : TG} {tt : TT} {te : TE} (hst : X.stack = X.env :: X.outer) (hf : X.env.frame = some X.env.locals) (tk : Takes X fun cls d _ H => E cls d H) (hc : X.calm = true) (hN : X.N.Nodup) (hi : PI X tg iter wi) (ok : BlkOk X.N X.env.scope scope own)
    (hg : ∀ (s : Shared) (H : Hp) (C : Addr) (cl : List (Str × Addr)) (fp : List Addr), PG (blkX X s H scope (compEnvC scope cl C X.env) fp E) tg g) (ht : ∀ (s : Shared) (H : Hp) (C : Addr) (cl : List (Str × Addr)) (fp : List Addr), PTs (blkX X s H scope (compEnvC scope cl C X.env) fp E) ifs tt)
    (he : ∀ (s : Shared) (H : Hp) (C : Addr) (cl : List (Str × Addr)) (fp : List Addr), PE (blkX X s H scope (compEnvC scope cl C X.env) fp E) elt te) (hfi : ∀ x, foldedSetIterable iter X.env x = pure x := by intro _; rfl) :
    PE X (.ListComp elt [⟨tg, iter, ifs, 0⟩] scope pos) (tLc wi g tt te (own.map (·.2))) := by
  refine ⟨fun pins s σ H Q I h => ?_⟩
  rw [eval_ListComp]
  refine lcX hst hf tk hc hN I hi ok hg ht he hfi h fun D C s' m H' I' q hn f => ⟨m, hn, fun k sb => ?_⟩
  exact ⟨.ref D, H', I'.turned (t' := s'.toks) (fun b o hb e => (sb.2 b hb).trans e) f.1 f.2.1 f.2.2.2.1 f.2.2.2.2.1 f.2.2.2.2.2, rfl, q⟩
/-- name = [..] on one line, the name a local -/
theorem ps_setLcX {E : XK} {i : Nat} {y : Str} {py : Pos} {elt tg iter : Expr} {ifs : List Expr} {scope : Scope} {own : List (Str × Nat)} {pos spos : Pos} {wi : TI} {g : TG} {tt : TT} {te : TE} (hst : X.stack = X.env :: X.outer) (hf : X.env.frame = some X.env.locals) (tk : Takes X fun cls d _ H => E cls d H) (hc : X.calm = true) (hN : X.N.Nodup) (hy : X.N[i]? = some y) (hyl : X.env.scope.names.lookup y = some .local)
    (hsw : swapsWith (.ListComp elt [⟨tg, iter, ifs, 0⟩] scope pos) (some (.Name y py)) spos.line X.env = pure true) (hi : PI X tg iter wi) (ok : BlkOk X.N X.env.scope scope own)
    (hg : ∀ (s : Shared) (H : Hp) (C : Addr) (cl : List (Str × Addr)) (fp : List Addr), PG (blkX X s H scope (compEnvC scope cl C X.env) fp E) tg g) (ht : ∀ (s : Shared) (H : Hp) (C : Addr) (cl : List (Str × Addr)) (fp : List Addr), PTs (blkX X s H scope (compEnvC scope cl C X.env) fp E) ifs tt)
    (he : ∀ (s : Shared) (H : Hp) (C : Addr) (cl : List (Str × Addr)) (fp : List Addr), PE (blkX X s H scope (compEnvC scope cl C X.env) fp E) elt te) (hfi : ∀ x, foldedSetIterable iter X.env x = pure x := by intro _; rfl) :
    PS X (.Assign [.Name y py] (.ListComp elt [⟨tg, iter, ifs, 0⟩] scope pos) spos) (tAsg (tLc wi g tt te (own.map (·.2))) (gName i)) := by
  refine ⟨fun pins s σ H D I h => ?_⟩
  rw [exec_Assign_Name_used _ _ _ _ hsw]
  refine wpAny_bind (wpAny_standAt (wpAny_bind ?_))
  show wpAny _ X.A (do let _ ← comprehension (.ListComp elt [⟨tg, iter, ifs, 0⟩] scope pos) scope X.env (firstIterPos [⟨tg, iter, ifs, 0⟩] pos) (newList []) false (eval iter X.env) (some (assign (.Name y py) X.env))) _ _ s
  have h : tLc wi g tt te (own.map (·.2)) σ H (fun x H1 => gName i x σ H1 D.nx) := h
  refine wpAny_bind (thn (lcX (Qf := fun _ s' => SP X pins D .next s') hst hf tk hc hN I hi ok hg ht he hfi h fun L C s' m H' I' q hn f => ?_) fun _ s' hq => wpAny_pure (wpAny_pure hq))
  show wpAny _ _ (assign (.Name y py) X.env (.ref L)) _ _ _
  refine wpAny_assign_Name (store_ok2 (v := V.ref L) I' hN hy (.inl hyl) rfl (fun s2 I2 ⟨a, sb, ha⟩ => ⟨m, hn.sameBut sb (ha.elim (fun z => z ▸ f.2.1) fun z e => f.2.2.2.2.1 y a z e.symm), fun k sb3 => ?_⟩) (.inr hyl))
  exact ⟨_, H', I2.turned (t' := s2.toks) (fun b o hb e => (sb3.2 b hb).trans e) f.1 f.2.1 f.2.2.2.1 f.2.2.2.2.1 f.2.2.2.2.2, q⟩
end
end SH

set_option Elab.async false
set_option linter.all false
set_option maxRecDepth 100000
namespace SH
open PySem L2
abbrev sFrameOf : Stmt := topS 82
abbrev sHandedOn : Stmt := topS 92
abbrev sBegun : Stmt := topS 91
abbrev sPathOf : Stmt := topS 71
abbrev sWaitW : Stmt := topS 94
theorem scFrameOf : FnScope ["work", "handed", "depth", "number"] ["work", "handed", "depth", "number"] (defScope sFrameOf) := ⟨rfl, rfl, rfl, by decide +kernel, rfl, by decide +kernel, by decide +kernel⟩
theorem scHandedOn : FnScope ["frame", "row", "handed", "tree"] ["frame", "row"] (defScope sHandedOn) := ⟨rfl, rfl, rfl, by decide +kernel, rfl, by decide +kernel, by decide +kernel⟩
theorem scBegun : FnScope ["frame", "row", "book", "number", "handed"] ["frame", "row", "book", "number"] (defScope sBegun) := ⟨rfl, rfl, rfl, by decide +kernel, rfl, by decide +kernel, by decide +kernel⟩
theorem scPathOf : FnScope ["name", "worths", "worth"] ["name", "worths"] (defScope sPathOf) := ⟨rfl, rfl, rfl, by decide +kernel, rfl, by decide +kernel, by decide +kernel⟩
theorem scWaitW : FnScope ["row", "frame", "results", "word", "worth"] ["row", "frame", "results"] (defScope sWaitW) := ⟨rfl, rfl, rfl, by decide +kernel, rfl, by decide +kernel, by decide +kernel⟩
/-- values, one by one -/
def WtsIn (H : Hp) : List Wt → List V → Prop
  | [], us => us = []
  | x :: xs, us => ∃ u r, us = u :: r ∧ WtIn H x u ∧ WtsIn H xs r
theorem WtsIn.same {H H' : Hp} (h : Same H H') : ∀ {xs : List Wt} {us : List V}, WtsIn H xs us → WtsIn H' xs us
  | [], _, e => e
  | _ :: _, _, ⟨u, r, e, a, b⟩ => ⟨u, r, e, a.same h, WtsIn.same h b⟩
theorem WtsIn.len {H : Hp} : ∀ {xs : List Wt} {us : List V}, WtsIn H xs us → us.length = xs.length
  | [], _, e => by cases e; rfl
  | _ :: _, _, ⟨u, r, e, a, b⟩ => by rw [e, List.length_cons, List.length_cons, WtsIn.len b]
theorem WtsIn.snoc {H : Hp} {x : Wt} {u : V} (h : WtIn H x u) : ∀ {xs : List Wt} {us : List V}, WtsIn H xs us → WtsIn H (xs ++ [x]) (us ++ [u])
  | [], _, e => by cases e; exact ⟨u, [], rfl, h, rfl⟩
  | _ :: _, _, ⟨v, r, e, a, b⟩ => by rw [e]; exact ⟨v, r ++ [u], rfl, a, WtsIn.snoc h b⟩
def evs (env : Str → Option Wt) : List Ex → Except Int (List Wt)
  | [] => .ok []
  | e :: es => (e.ev env).bind fun v => (evs env es).bind fun vs => .ok (v :: vs)
/-- what is handed on, from a frame at that depth -/
def handV (env : Str → Option Wt) (dp : Int) (es : List Ex) : Except Int (List Wt) := (evs env es).bind fun vs => if dp ≥ 30 then .error (-5) else .ok vs
inductive Rz where
  | gives (x : Wt)
  | fails (n : Int)
def Rz.ok : Rz → Prop
  | .gives x => x.ok
  | .fails n => n.natAbs ≤ mostN
theorem kvPath (p : List Int) : (p.map Sum.inl).map kV = p.map V.int := by rw [List.map_map]; rfl
def RzIn (H : Hp) : Rz → V → Prop
  | .gives x, v => ∃ a u, v = .ref a ∧ H a = some (.tup [.str "gives", u]) ∧ WtIn H x u
  | .fails n, v => ∃ a, v = .ref a ∧ H a = some (.tup [.str "fails", .int n])
theorem RzIn.same {H H' : Hp} (h : Same H H') : ∀ {r : Rz} {v : V}, RzIn H r v → RzIn H' r v
  | .gives _, _, ⟨a, u, e, k, q⟩ => ⟨a, u, e, h _ _ k, q.same h⟩
  | .fails _, _, ⟨a, e, k⟩ => ⟨a, e, h _ _ k⟩
/-- the results of the tasks that ended, by path -/
def ResIn (H : Hp) : List (List Int × Rz) → List (List Key × V) → Prop
  | [], kvs => kvs = []
  | (p, r) :: R, kvs => ∃ v t, kvs = (p.map Sum.inl, v) :: t ∧ r.ok ∧ RzIn H r v ∧ ResIn H R t
def ResAt (H : Hp) (d : Addr) (R : List (List Int × Rz)) : Prop := ∃ kvs : List (List Key × V), H d = some (.dT kvs) ∧ ResIn H R kvs
theorem inlInj {p q : List Int} (h : p.map (Sum.inl (β := Str)) = q.map Sum.inl) : p = q := by
  induction p generalizing q with
  | nil => cases q with
    | nil => rfl
    | cons _ _ => cases h
  | cons a p ih => cases q with
    | nil => cases h
    | cons b q =>
      rw [List.map_cons, List.map_cons] at h
      injection h with h1 h2
      rw [Sum.inl.inj h1, ih h2]
theorem ResIn.look {H : Hp} : ∀ {R : List (List Int × Rz)} {kvs : List (List Key × V)}, ResIn H R kvs → ∀ p : List Int, (∀ r, R.lookup p = some r → r.ok ∧ ∃ v, valV kvs (p.map Sum.inl) = some v ∧ RzIn H r v) ∧ (R.lookup p = none → valV kvs (p.map Sum.inl) = none)
  | [], _, e, p => by cases e; exact ⟨(fun r h => by cases h), fun _ => rfl⟩
  | (q, r0) :: R, _, ⟨v, t, e, o, h, k⟩, p => by
    subst e
    rw [List.lookup_cons]
    by_cases c : p = q
    · subst c
      rw [beq_self_eq_true]
      exact ⟨fun r z => by cases z; exact ⟨o, v, valV_pos rfl, h⟩, fun z => by cases z⟩
    · rw [beq_eq_false_iff_ne.mpr c, valV_neg (fun z => c (inlInj z).symm)]
      exact ResIn.look k p
def waitV (R : List (List Int × Rz)) (env : Str → Option Wt) (y : Str) (oe : Option Ex) : Except Int Wt :=
  match env y with
  | none => .error (-1)
  | some (.num _) => .error (-3)
  | some (.fut p) => match R.lookup p with
    | none => .error 0
    | some (.gives x) => .ok x
    | some (.fails n) => match oe with
      | none => .error n
      | some e => e.ev env
def spFrameOf (CF : Addr) : Sp := fun vs H Q _ => ∃ (v : V) (h : Addr) (W : Wk) (us : List V) (dp nr : Int), vs = [v, .ref h, .int dp, .int nr] ∧ WkIn H W v ∧ W.ok ∧ H h = some (.lst us) ∧ W.names.length = us.length ∧
  ∀ (x d c dx : Addr) (rows : List V) (H' : Hp), Same H H' → H x = none → H d = none → H c = none → H' x = some (.ins CF dx (frF ⟨c, d, W.room, dp, nr, 0⟩)) → H' c = some (.lst rows) → CrsIn H' (wcr W.rows) rows → H' d = some (.dK ((W.names.zip us).map fun p => (Sum.inr p.1, p.2))) → Q (.ref x) H'
def spHandedOn (CB CF : Addr) : Sp := fun vs H Q E => ∃ (x a p : Addr) (F : FrSt) (z nm g : Str) (ws : List V) (es : List Ex) (env : Str → Option Wt), vs = [.ref x, .ref a] ∧ FrAt H CF x F ∧ H a = some (.tup [.str z, .str nm, .str g, .ref p]) ∧ H p = some (.tup ws) ∧ TrsIn H es ws ∧ (∀ e ∈ es, Ex.low 6 e) ∧ es.length ≤ 4 ∧ EnvIn H F.d env ∧
  match handV env F.dp es with
  | .error n => ∀ H', Same H H' → Brk CB H' E n
  | .ok xs => ∀ (l : Addr) (us : List V) (H' : Hp), Same H H' → H l = none → H' l = some (.lst us) → WtsIn H' xs us → Q (.ref l) H'
def spBegun (CB CF CK : Addr) : Sp := fun vs H Q E => ∃ (x a p bk : Addr) (nr : Int) (F : FrSt) (z nm g : Str) (ws : List V) (es : List Ex) (env : Str → Option Wt) (Ws : List Wk) (W : Wk), vs = [.ref x, .ref a, .ref bk, .int nr] ∧ FrAt H CF x F ∧ H a = some (.tup [.str z, .str nm, .str g, .ref p]) ∧ H p = some (.tup ws) ∧ TrsIn H es ws ∧ (∀ e ∈ es, Ex.low 6 e) ∧ es.length ≤ 4 ∧ EnvIn H F.d env ∧
  BkIn H CK bk Ws ∧ (Ws.map Wk.name).Nodup ∧ W ∈ Ws ∧ W.name = g ∧ W.ok ∧ W.names.length = es.length ∧
  match handV env F.dp es with
  | .error n => ∀ H', Same H H' → Brk CB H' E n
  | .ok xs => ∀ (y d c dy : Addr) (rows us : List V) (H' : Hp), Same H H' → H y = none → H d = none → H c = none → H' y = some (.ins CF dy (frF ⟨c, d, W.room, F.dp + 1, nr, 0⟩)) → H' c = some (.lst rows) → CrsIn H' (wcr W.rows) rows → H' d = some (.dK ((W.names.zip us).map fun p => (Sum.inr p.1, p.2))) → WtsIn H' xs us → Q (.ref y) H'
def spPathOf (CB : Addr) : Sp := fun vs H Q E => ∃ (nm : Str) (d : Addr) (env : Str → Option Wt), vs = [.str nm, .ref d] ∧ EnvIn H d env ∧
  match env nm with
  | none => Brk CB H E (-1)
  | some (.num _) => Brk CB H E (-3)
  | some (.fut p) => ∀ b, H b = some (.tup (p.map V.int)) → Q (.ref b) H
def spWaitW (CB CF : Addr) : Sp := fun vs H Q E => ∃ (a x rd : Addr) (F : FrSt) (u v : V) (nm : Str) (z : Str) (oe : Option Ex) (env : Str → Option Wt) (R : List (List Int × Rz)), vs = [.ref a, .ref x, .ref rd] ∧ FrAt H CF x F ∧ H a = some (.tup [.str z, u, .str nm, v]) ∧ OptIn H oe v ∧ (∀ e, oe = some e → Ex.low 6 e) ∧ EnvIn H F.d env ∧ ResAt H rd R ∧
  (∀ p, env nm = some (.fut p) → ∃ r, R.lookup p = some r) ∧ OutW CB H Q E (waitV R env nm oe)
theorem made_same {G : Hp} {x dx CF : Addr} {fs : List (Str × V)} (nx : G x = none) (ndx : G dx = none) (ne : dx ≠ x) : Same G (upd (upd (upd G dx (.own x)) x (.ins CF dx [])) x (.ins CF dx fs)) := fun b o z => by
  have nb : b ≠ x := fun e => by rw [e, nx] at z; cases z
  rw [upd_ne nb, upd_ne nb, upd_ne (fun e => by rw [e, ndx] at z; cases z)]
  exact z
theorem WtIn.tups {H H' : Hp} (h : Tups H H') : ∀ {x : Wt} {v : V}, WtIn H x v → WtIn H' x v
  | .num _, _, e => e
  | .fut _, _, ⟨a, b, e, h1, h2⟩ => ⟨a, b, e, h _ _ h1, h _ _ h2⟩
theorem WtsIn.tups {H H' : Hp} (h : Tups H H') : ∀ {xs : List Wt} {us : List V}, WtsIn H xs us → WtsIn H' xs us
  | [], _, e => e
  | _ :: _, _, ⟨u, r, e, a, b⟩ => ⟨u, r, e, a.tups h, WtsIn.tups h b⟩
theorem WtsIn.tupL {H : Hp} {D : Addr} {ys zs : List V} {xs : List Wt} {us : List V} (h : WtsIn H xs us) (e : H D = some (.lst ys)) : WtsIn (upd H D (.lst zs)) xs us := h.tups (Tups.lst e)
theorem TrsIn.len_ {H : Hp} : ∀ {es : List Ex} {vs : List V}, TrsIn H es vs → vs.length = es.length
  | [], _, e => by cases e; rfl
  | _ :: _, _, ⟨v, r, e, a, b⟩ => by rw [e, List.length_cons, List.length_cons, TrsIn.len_ b]
theorem EnvIn.keep {H H' : Hp} {d : Addr} {env : Str → Option Wt} (h : Tups H H') (k : ∀ o, H d = some o → H' d = some o) : EnvIn H d env → EnvIn H' d env
  | ⟨kvs, e, p⟩ => ⟨kvs, k _ e, fun nm => ⟨fun x q => let ⟨a, v, b, c⟩ := (p nm).1 x q; ⟨a, v, b, c.tups h⟩, (p nm).2⟩⟩
theorem EnvIn.same {H H' : Hp} {d : Addr} {env : Str → Option Wt} (s : Same H H') (h : EnvIn H d env) : EnvIn H' d env := h.keep (Same.tups s) fun o e => s _ _ e
theorem nmLen {s : Str} (h : NmOk s) : s.length ≤ 100000 := by rw [← codes_len]; exact Nat.le_trans h.1.2.1 (by decide)
theorem nd_inj : ∀ {Ws : List Wk} {V W : Wk}, (Ws.map Wk.name).Nodup → V ∈ Ws → W ∈ Ws → V.name = W.name → V = W
  | X :: Ws, V, W, n, h1, h2, e => by
    rw [List.map_cons, List.nodup_cons] at n
    rcases List.mem_cons.mp h1 with k1 | k1 <;> rcases List.mem_cons.mp h2 with k2 | k2
    · exact k1.trans k2.symm
    · rw [← k1] at n; exact absurd (List.mem_map.mpr ⟨W, k2, e.symm⟩) n.1
    · rw [← k2] at n; exact absurd (List.mem_map.mpr ⟨V, k1, e⟩) n.1
    · exact nd_inj n.2 k1 k2 e
theorem evs_len {env : Str → Option Wt} : ∀ {es : List Ex} {xs : List Wt}, evs env es = .ok xs → xs.length = es.length
  | [], xs, h => by cases h; rfl
  | e :: es, xs, h => by
    unfold evs at h
    cases h1 : e.ev env with
    | error n => rw [h1] at h; cases h
    | ok v =>
      rw [h1] at h
      change (evs env es).bind _ = _ at h
      cases h2 : evs env es with
      | error n => rw [h2] at h; cases h
      | ok vs => rw [h2] at h; cases h; rw [List.length_cons, List.length_cons, evs_len h2]
theorem handV_evs {env : Str → Option Wt} {dp : Int} {es : List Ex} {xs : List Wt} (h : handV env dp es = .ok xs) : evs env es = .ok xs ∧ dp < 30 := by
  unfold handV at h
  cases h2 : evs env es with
  | error n => rw [h2] at h; cases h
  | ok vs =>
    rw [h2] at h
    change (if dp ≥ 30 then Except.error (-5) else Except.ok vs) = Except.ok xs at h
    by_cases c : dp ≥ 30
    · rw [if_pos c] at h; cases h
    · rw [if_neg c] at h; cases h; exact ⟨rfl, by omega⟩
theorem handV_len {env : Str → Option Wt} {dp : Int} {es : List Ex} {xs : List Wt} (h : handV env dp es = .ok xs) : xs.length = es.length := evs_len (handV_evs h).1
structure FkN (P : Program) (w : World) (K : PySem.W.Frag) (mg : Str → Option Value) (base : Heap) (CX : CXT) (lv : Nat) (x : Str) (f : Addr) (fd : FuncData) (ps : List Str) (sp : Sp) : Prop where
  G : FnOk P w K mg base CX lv f fd ps sp
  m : mg x = some (.ref f)
  k : PySem.W.keepIn K (.ref f) = true
/-- a class that is made, by its __init__ -/
structure MkF (P : Program) (w : World) (K : PySem.W.Frag) (mg : Str → Option Value) (base : Heap) (lv : Nat) (x : Str) (C f : Addr) (fd : FuncData) (ps : List Str) (sp : Sp) : Prop where
  M : Mk K C f
  G : FnOk P w K mg base CX0 lv f fd ps sp
  m : mg x = some (.ref C)
/-- a method -/
structure FkM (P : Program) (w : World) (K : PySem.W.Frag) (mg : Str → Option Value) (base : Heap) (lv : Nat) (C : Addr) (m : Str) (f : Addr) (fd : FuncData) (ps : List Str) (sp : Sp) : Prop where
  M : Meth K C m f
  G : FnOk P w K mg base CX0 lv f fd ps sp
  b : Binds K fd ps []
/-- a method that may raise -/
structure FkMX (P : Program) (w : World) (K : PySem.W.Frag) (mg : Str → Option Value) (base : Heap) (lv : Nat) (C : Addr) (m : Str) (f : Addr) (fd : FuncData) (ps : List Str) (sp : Sp) : Prop where
  M : Meth K C m f
  G : FnOk P w K mg base (L2.CX P w) lv f fd ps sp
  b : Binds K fd ps []
section
variable {P : Program} {w : World} {K : PySem.W.Frag} {mg : Str → Option Value} {base : Heap} {CB fB : Addr} {B newId i0 : String} {bmB : List Value}
theorem ok_frameOf {f a1 a2 CF : Addr} {fd d1 d2 : FuncData} {g : List Value → List Value → List Value} (F : Fun K "frame_of_work" "frame_of_work" sFrameOf f fd) (CO : Fk P w K mg base 9 "code_of" a1 d1 ["work"] spCodeOf) (FI : MkF P w K mg base 1 "Frame" CF a2 d2 ["self", "code", "room", "worths", "depth", "number", "place"] (spFrameInit CF)) (kF : KBn K d2 ["self", "code", "room", "worths", "depth", "number", "place"] 4 ["depth", "number"] g (fun vs zs => vs ++ zs ++ [V.int 0])) (q_dict : mg "dict" = none) (q_zip : mg "zip" = none) :
    FnOk P w K mg base CX0 10 f fd ["work", "handed", "depth", "number"] (spFrameOf CF) := by
  refine F.ok scFrameOf (fun vs H Q E h => ?_) (fun cdv A outer s H vs Q E hr h => ?_)
  · obtain ⟨v, h, W, us, dp, nr, rfl, _⟩ := h
    rfl
  obtain ⟨v, h, W, us, dp, nr, rfl, hW, ok, hh, len, q⟩ := h
  refine ⟨_, (pss_one (ps_ret (pe_makeK FI.M FI.G (hr.mono (by omega)) (by rfl) FI.m kF pass0 (pa_cons (pe_call CO.G (hr.mono (by omega)) (by rfl) CO.m CO.k CO.b .nil pass0 (pa_cons (pv 0) pa_nil)) (pa_cons (pe_ix ix_tup (pv 0) pe_int (fun _ _ => rfl)) (pa_cons (pe_dictZip (by rfl) q_dict (by rfl) q_zip (pa_cons (pe_ix ix_tup (pv 0) pe_int (fun _ _ => rfl)) (pa_cons (pv 1) pa_nil))) pa_nil))) (pk_cons (pv 2) (pk_cons (pv 3) pk_nil))))), ?_⟩
  have hW0 := hW
  obtain ⟨a, pn, pr, xs, rfl, ha, hpn, hpr, hR⟩ := hW
  refine ⟨_, rfl, _, W, 3, Nat.le_refl _, rfl, hW0, ok.rows, ok.count, fun c rows H1 s1 nc hc dp1 => ?_⟩
  refine ⟨_, rfl, a, _, 3, _, rfl, rfl, SqT.of (s1 _ _ ha), atI_nat (j := 3) rfl, ?_⟩
  refine ⟨_, rfl, a, _, 2, _, rfl, rfl, SqT.of (s1 _ _ ha), atI_nat (j := 2) rfl, _, rfl, pn, h, W.names, us, rfl, SqT.of (s1 _ _ hpn), SqL.of (s1 _ _ hh), len, ok.nd, by have := ok.few; omega, fun d nd => ?_⟩
  refine ⟨_, rfl, _, rfl, rfl, rfl, fun x dx nx ndx ne => ?_⟩
  have s2 := same_new nd (.dK ((W.names.zip us).map fun p => (Sum.inr p.1, p.2)))
  have hd := upd_same (H := H1) (a := d) (o := .dK ((W.names.zip us).map fun p => (Sum.inr p.1, p.2)))
  generalize upd H1 d (.dK ((W.names.zip us).map fun p => (Sum.inr p.1, p.2))) = H2 at nx ndx s2 hd ⊢
  refine ⟨x, dx, ⟨c, d, W.room, dp, nr, 0⟩, rfl, upd_same, rfl, ?_⟩
  have s3 := made_same nx ndx ne (CF := CF) (fs := frF ⟨c, d, W.room, dp, nr, 0⟩)
  have s12 := s1.trans s2
  exact q x d c dx rows _ (s12.trans s3) (s12.free nx) (s1.free nd) nc upd_same (s3 _ _ (s2 _ _ hc)) (dp1.same (s2.trans s3)) (s3 _ _ hd)
structure Dp0 (mg : Str → Option Value) : Prop where
  deep : Gi mg "TOO_DEEP" (-5)
  frames : Gi mg "DEEPEST_FRAME" 30
theorem ok_handedOn {f a5 CF : Addr} {fd d5 : FuncData} (F : Fun K "handed_on" "handed_on" sHandedOn f fd) (FT : FrT K CF) (RE : FkX P w K mg base 8 "reckon" a5 d5 ["tree", "worths"] (spReckon CB 6)) (TB : SupC P K mg "Broken" "number" CB fB B newId i0 bmB) (RD : Dp0 mg) : FnOk P w K mg base (L2.CX P w) 9 f fd ["frame", "row"] (spHandedOn CB CF) := by
  refine F.okX scHandedOn (fun vs H Q E h => ?_) (fun cdv A outer s H vs Q E hr h => ?_)
  · obtain ⟨x, a, p, F, z, nm, g, ws, es, env, rfl, _⟩ := h
    rfl
  obtain ⟨x, a, p, F, z, nm, g, ws, es, env, rfl, ⟨dx, hx⟩, ha, hp, hT, lo, le, hE, q⟩ := h
  refine ⟨_, (pss_cons (ps_setLcX (i := 2) (own := [("tree", 3)]) (g := gName 3) (tt := tYes) rfl rfl (takes_of rfl rfl rfl rfl) (by rfl) scHandedOn.nd rfl rfl (sw_true rfl rfl rfl (by decide +kernel)) (pi_tup (pe_ix ix_tup (pv 1) pe_int (fun _ _ => rfl))) (blkOk_by (own := [("tree", 3)]) (N := ["frame", "row", "handed", "tree"]) (sc := defScope sHandedOn) (by decide +kernel)) (fun _ _ _ _ _ => pg_name (i := 3) scHandedOn.nd rfl (Or.inl rfl)) (fun _ _ _ _ _ => pts_nil) (fun _ _ _ _ _ => (pe_call RE.G (hr.mono (by omega)) (by rfl) RE.m RE.k RE.b .nil passBlk (pa_cons (pv 3) (pa_cons (pe_fldK K rfl (pv 0) rfl) pa_nil)))))
    (pss_cons (ps_if (pt_cmpR op_ge (pe_fld (pv 0) rfl) (pe_gi RD.frames) (nomark _))
      (pss_one (ps_raiseS rfl TB hr (takes_of rfl rfl rfl rfl) (pa_cons (pe_gi RD.deep) pa_nil) rfl))
      pss_nil)
    (pss_one (ps_ret (pv 2))))), ?_⟩
  have hs : sizeLine = 16777216 := by decide
  refine ⟨_, rfl, a, _, 3, _, rfl, rfl, SqT.of ha, atI_nat (j := 3) rfl, p, rfl, ⟨_, SqT.of hp⟩, ?_⟩
  intro D hD
  refine lc_tup (K := K) (a := p) (xs := ws) (fun j H' => ∃ (us : List V) (xs : List Wt), H' D = some (.lst us) ∧ WtsIn H' xs us ∧ Same H H' ∧ xs.length = j ∧ evs env es = (evs env (es.drop j)).bind fun r => .ok (xs ++ r)) ?_ ?_ ?_ ?_
  · refine ⟨[], [], upd_same, rfl, same_new hD _, rfl, ?_⟩
    show evs env es = (evs env es).bind fun r => .ok r
    cases evs env es <;> rfl
  · rintro j H' _ ⟨_, _, _, _, s', _⟩
    exact SqT.of (s' _ _ hp)
  · rintro j v H7 hv ⟨us, xs, hD7, hX, s7, ln, ee⟩
    obtain ⟨e, he, hte⟩ := TrsIn.get_ hT hv
    have hj : j < es.length := (List.getElem?_eq_some_iff.mp he).1
    have e2 : es.drop j = e :: es.drop (j + 1) := by
      rw [List.drop_eq_getElem_cons hj, (List.getElem?_eq_some_iff.mp he).2]
    rw [e2] at ee
    change evs env es = ((e.ev env).bind fun v => (evs env (es.drop (j + 1))).bind fun vs => .ok (v :: vs)).bind _ at ee
    refine ⟨rfl, ?_⟩
    refine ⟨_, rfl, _, rfl, x, CF, dx, _, _, rfl, s7 _ _ hx, FT.cl, FT.worths, rfl, v, F.d, e, env, rfl, hte.same s7, lo e (List.mem_of_getElem? he), hE.same s7, ?_⟩
    cases h1 : e.ev env with
    | error n =>
      rw [h1] at ee
      change evs env es = .error n at ee
      have : handV env F.dp es = .error n := by unfold handV; rw [ee]; rfl
      rw [this] at q
      exact q H7 s7
    | ok y =>
      rw [h1] at ee
      intro u hu
      refine ⟨us, hD7, by rw [hX.len]; omega, us ++ [u], xs ++ [y], upd_same, ?_, ?_, by rw [List.length_append, ln]; rfl, ?_⟩
      · exact (WtsIn.snoc hu hX).tupL hD7
      · intro b o z
        rw [upd_ne (ne_of_none z hD)]
        exact s7 _ _ z
      · rw [ee]
        show ((evs env (es.drop (j + 1))).bind fun vs => .ok (y :: vs)).bind _ = _
        cases evs env (es.drop (j + 1)) with
        | error n => rfl
        | ok vs => show Except.ok (xs ++ (y :: vs)) = Except.ok ((xs ++ [y]) ++ vs); rw [List.append_assoc]; rfl
  · rintro H7 ⟨us, xs, hD7, hX, s7, ln, ee⟩
    have el : ws.length = es.length := TrsIn.len_ hT
    rw [el, List.drop_length] at ee
    change evs env es = .ok (xs ++ []) at ee
    rw [List.append_nil] at ee
    refine ⟨_, rfl, x, CF, dx, _, _, rfl, s7 _ _ hx, FT.cl, FT.depth, rfl, ?_⟩
    have eh : handV env F.dp es = if F.dp ≥ 30 then .error (-5) else .ok xs := by unfold handV; rw [ee]; rfl
    refine ⟨_, _, rfl, rfl, _, rfl, ?_⟩
    refine ite2 (fun c => ?_) (fun c => ?_)
    · rw [eh, if_pos (of_decide_eq_true c)] at q
      exact ⟨_, rfl, .inr ⟨_, rfl, by decide +kernel⟩, q H7 s7⟩
    · rw [eh, if_neg (fun z => c (decide_eq_true z))] at q
      exact ⟨_, rfl, q D us H7 s7 hD hD7 hX⟩
theorem ok_begun {f a1 a2 a3 CF CK CM : Addr} {fd d1 d2 d3 : FuncData} {g : List Value → List Value → List Value} (F : Fun K "begun_frame" "begun_frame" sBegun f fd) (FT : FrT K CF) (BT : BkT K mg CK) (HO : FkX P w K mg base 9 "handed_on" a1 d1 ["frame", "row"] (spHandedOn CB CF)) (TR : FkMX P w K mg base 2 CK "tree" a2 d2 ["self", "name"] (spBookTree CK CM))
    (FW : FkN P w K mg base CX0 10 "frame_of_work" a3 d3 ["work", "handed", "depth", "number"] (spFrameOf CF)) (kW2 : KBn K d3 ["work", "handed", "depth", "number"] 2 ["depth", "number"] g (fun vs zs => vs ++ zs)) : FnOk P w K mg base (L2.CX P w) 11 f fd ["frame", "row", "book", "number"] (spBegun CB CF CK) := by
  refine F.okX scBegun (fun vs H Q E h => ?_) (fun cdv A outer s H vs Q E hr h => ?_)
  · obtain ⟨x, a, p, bk, nr, F, z, nm, g, ws, es, env, Ws, W, rfl, _⟩ := h
    rfl
  obtain ⟨x, a, p, bk, nr, F, z, nm, g, ws, es, env, Ws, W, rfl, ⟨dx, hx⟩, ha, hp, hT, lo, le, hE, hB, hnd, hW, rfl, ok, ln, q⟩ := h
  refine ⟨_, (pss_cons (ps_set (i := 4) scBegun.nd rfl (Or.inl rfl) (pe_call HO.G (hr.mono (by omega)) (by rfl) HO.m HO.k HO.b .nil (passX (takes_of rfl rfl rfl rfl)) (pa_cons (pv 0) (pa_cons (pv 1) pa_nil))))
    (pss_one (ps_ret (pe_callN FW.G (hr.mono (by omega)) (by rfl) FW.m FW.k kW2 pass0 (pa_cons (pe_meth (pv 2) BT.cl TR.M TR.G (hr.mono (by omega)) TR.b .nil (passX (takes_of rfl rfl rfl rfl)) (pa_cons (pe_ix ix_tup (pv 1) pe_int (fun _ _ => rfl)) pa_nil)) (pa_cons (pv 4) pa_nil)) (pk_cons (pe_op op_add (pe_fld (pv 0) rfl) pe_int) (pk_cons (pv 3) pk_nil)))))), ?_⟩
  refine ⟨_, rfl, _, rfl, x, a, p, F, z, nm, _, ws, es, env, rfl, ⟨dx, hx⟩, ha, hp, hT, lo, le, hE, ?_⟩
  cases h1 : handV env F.dp es with
  | error n =>
    rw [h1] at q
    exact q
  | ok xs =>
  rw [h1] at q
  intro l us H1 s1 nl hl hX
  obtain ⟨dk, pk, uk, hk, hpk, hWs⟩ := hB
  have hB1 : BkIn H1 CK bk Ws := ⟨dk, pk, uk, s1 _ _ hk, s1 _ _ hpk, hWs.same s1⟩
  refine ⟨_, rfl, bk, dk, _, rfl, s1 _ _ hk, rfl, _, rfl, a, _, 2, _, rfl, rfl, SqT.of (s1 _ _ ha), atI_nat (j := 2) rfl, bk, Ws, W.name, rfl, hB1, nmLen ok.name, fun v W' hW' en hv => ?_, fun z => absurd rfl (z W hW)⟩
  have eW : W' = W := nd_inj hnd hW' hW en
  subst eW
  have lu := hX.len
  have lx := handV_len h1
  refine ⟨_, rfl, _, rfl, x, CF, dx, _, _, rfl, s1 _ _ hx, FT.cl, FT.depth, rfl, _, _, rfl, rfl, _, rfl, rfl, rfl, v, l, W', us, _, _, rfl, hv, ok, hl, by omega, fun y d c dy rows H' s2 n1 n2 n3 k1 k2 k3 k4 => ?_⟩
  exact q y d c dy rows us H' (s1.trans s2) (s1.free n1) (s1.free n2) (s1.free n3) k1 k2 k3 k4 (hX.same s2)
theorem ok_pathOf {f a1 a2 : Addr} {fd d1 d2 : FuncData} (F : Fun K "path_of" "path_of" sPathOf f fd) (WO : FkX P w K mg base 2 "worth_of" a1 d1 ["name", "worths"] (spWorthOf CB)) (FU : Fk P w K mg base 1 "is_future" a2 d2 ["worth"] spIsFut) (TB : SupC P K mg "Broken" "number" CB fB B newId i0 bmB) (RK : Rk mg) : FnOk P w K mg base (L2.CX P w) 3 f fd ["name", "worths"] (spPathOf CB) := by
  refine F.okX scPathOf (fun vs H Q E h => ?_) (fun cdv A outer s H vs Q E hr h => ?_)
  · obtain ⟨nm, d, env, rfl, _⟩ := h
    rfl
  obtain ⟨nm, d, env, rfl, hE, q⟩ := h
  refine ⟨_, (pss_cons (ps_set (i := 2) scPathOf.nd rfl (Or.inl rfl) (pe_call WO.G (hr.mono (by omega)) (by rfl) WO.m WO.k WO.b .nil (passX (takes_of rfl rfl rfl rfl)) (pa_cons (pv 0) (pa_cons (pv 1) pa_nil))))
    (pss_cons (ps_if (pt_not (pt_val (pe_call FU.G (hr.mono (by omega)) (by rfl) FU.m FU.k FU.b .nil pass0 (pa_cons (pv 2) pa_nil))))
      (pss_one (ps_raiseS rfl TB hr (takes_of rfl rfl rfl rfl) (pa_cons (pe_gi RK.nofut) pa_nil) rfl))
      pss_nil)
    (pss_one (ps_ret (pe_ix ix_tup (pv 2) pe_int (fun _ _ => rfl)))))), ?_⟩
  refine ⟨_, rfl, _, rfl, nm, d, env, rfl, hE, ?_⟩
  cases he : env nm with
  | none =>
    rw [he] at q
    have : Ex.ev env (.nam nm) = .error (-1) := by unfold Ex.ev; rw [he]
    rw [this]
    exact q
  | some x =>
    rw [he] at q
    have : Ex.ev env (.nam nm) = .ok x := by unfold Ex.ev; rw [he]
    rw [this]
    intro v hv
    refine ⟨_, rfl, v, x, rfl, hv, _, rfl, ?_⟩
    cases x with
    | num i => exact iteT ⟨_, rfl, .inr ⟨_, rfl, by decide +kernel⟩, q⟩
    | fut p =>
      obtain ⟨a, b, rfl, h1, h2⟩ := hv
      exact iteF ⟨_, rfl, a, _, 1, _, rfl, rfl, SqT.of h1, atI_nat (j := 1) rfl, q b h2⟩
theorem ok_waitW {f a1 a2 CF : Addr} {fd d1 d2 : FuncData} (F : Fun K "wait_worth" "wait_worth" sWaitW f fd) (FT : FrT K CF) (PO : FkX P w K mg base 3 "path_of" a1 d1 ["name", "worths"] (spPathOf CB)) (RE : FkX P w K mg base 8 "reckon" a2 d2 ["tree", "worths"] (spReckon CB 6)) (TB : SupC P K mg "Broken" "number" CB fB B newId i0 bmB) : FnOk P w K mg base (L2.CX P w) 10 f fd ["row", "frame", "results"] (spWaitW CB CF) := by
  refine F.okX scWaitW (fun vs H Q E h => ?_) (fun cdv A outer s H vs Q E hr h => ?_)
  · obtain ⟨a, x, rd, F, u, v, nm, z, oe, env, R, rfl, _⟩ := h
    rfl
  obtain ⟨a, x, rd, F, u, v, nm, z, oe, env, R, rfl, ⟨dx, hx⟩, ha, hO, lo, hE, hRs, rdy, q⟩ := h
  refine ⟨_, (pss_cons (ps_asg (pe_dget (hu_of hr) (pv 2) (pe_call PO.G (hr.mono (by omega)) (by rfl) PO.m PO.k PO.b .nil (passX (takes_of rfl rfl rfl rfl)) (pa_cons (pe_ix ix_tup (pv 0) pe_int (fun _ _ => rfl)) (pa_cons (pe_fld (pv 1) rfl) pa_nil))) (fun _ _ => rfl)) (pg_tup rfl (pgs_cons (pg_name (i := 3) scWaitW.nd rfl (.inl rfl)) (pgs_cons (pg_name (i := 4) scWaitW.nd rfl (.inl rfl)) pgs_nil))))
    (pss_cons (ps_if (pt_cmpR op_eq (pv 3) pe_str (nomark _))
      (pss_one (ps_ret (pv 4)))
      pss_nil)
    (pss_cons (ps_if (pt_cmpR op_isN (pe_ix ix_tup (pv 0) pe_int (fun _ _ => rfl)) pe_non (nomark _))
      (pss_one (ps_raiseS rfl TB hr (takes_of rfl rfl rfl rfl) (pa_cons (pv 4) pa_nil) rfl))
      pss_nil)
    (pss_one (ps_ret (pe_call RE.G (hr.mono (by omega)) (by rfl) RE.m RE.k RE.b .nil (passX (takes_of rfl rfl rfl rfl)) (pa_cons (pe_ix ix_tup (pv 0) pe_int (fun _ _ => rfl)) (pa_cons (pe_fld (pv 1) rfl) pa_nil)))))))), ?_⟩
  refine ⟨_, rfl, _, rfl, a, _, 2, _, rfl, rfl, SqT.of ha, atI_nat (j := 2) rfl, _, rfl, x, CF, dx, _, _, rfl, hx, FT.cl, FT.worths, rfl, nm, F.d, env, rfl, hE, ?_⟩
  obtain ⟨kvs, hd, hRi⟩ := hRs
  have hv := hRi.look
  cases he : env nm with
  | none =>
    have : waitV R env nm oe = .error (-1) := by unfold waitV; rw [he]
    rw [this] at q
    exact q
  | some y =>
  cases y with
  | num i =>
    have : waitV R env nm oe = .error (-3) := by unfold waitV; rw [he]
    rw [this] at q
    exact q
  | fut p =>
  intro b hb
  obtain ⟨r, hr'⟩ := rdy p he
  obtain ⟨ro, v', hv', hin⟩ := (hv p).1 r hr'
  have D := DGet.t (k := p.map Sum.inl) hd (by rw [kvPath]; exact hb)
  rw [hv'] at D
  refine ⟨rd, v', rfl, D, ?_⟩
  cases r with
  | gives y =>
    have : waitV R env nm oe = .ok y := by unfold waitV; rw [he]; show (match R.lookup p with | none => _ | some (.gives x) => _ | some (.fails n) => _) = _; rw [hr']
    rw [this] at q
    obtain ⟨c, u', rfl, hc, hw⟩ := hin
    refine ⟨c, _, rfl, SqT.of hc, rfl, _, _, rfl, _, _, rfl, rfl, ?_⟩
    refine ⟨_, rfl, rfl, _, rfl, ?_⟩
    rw [decide_eq_true rfl]
    exact iteT ⟨_, rfl, q u' hw⟩
  | fails n =>
    obtain ⟨c, rfl, hc⟩ := hin
    refine ⟨c, _, rfl, SqT.of hc, rfl, _, _, rfl, _, _, rfl, rfl, ?_⟩
    refine ⟨_, rfl, rfl, _, rfl, ?_⟩
    refine iteF ?_
    refine ⟨_, rfl, a, _, 3, _, rfl, rfl, SqT.of ha, atI_nat (j := 3) rfl, rfl, _, rfl, ?_⟩
    cases oe with
    | none =>
      have : waitV R env nm none = .error n := by unfold waitV; rw [he]; show (match R.lookup p with | none => _ | some (.gives x) => _ | some (.fails n) => _) = _; rw [hr']
      rw [this] at q
      cases hO
      exact iteT ⟨_, rfl, _, rfl, .inr ⟨_, rfl, Nat.lt_trans (logB ro) (by decide)⟩, q⟩
    | some e =>
      have : waitV R env nm (some e) = e.ev env := by unfold waitV; rw [he]; show (match R.lookup p with | none => _ | some (.gives x) => _ | some (.fails n) => _) = _; rw [hr']
      rw [this] at q
      have hO : TrIn H e v := hO
      have nn : decide (v = V.non) = false := decide_eq_false (fun z => by subst z; cases e <;> simp [TrIn] at hO)
      rw [nn]
      exact iteF ⟨_, rfl, a, _, 3, _, rfl, rfl, SqT.of ha, atI_nat (j := 3) rfl, _, rfl, x, CF, dx, _, _, rfl, hx, FT.cl, FT.worths, rfl, v, F.d, e, env, rfl, hO, lo e rfl, hE, q⟩
end
end SH

set_option Elab.async false
set_option linter.all false
set_option maxRecDepth 100000
namespace SH
open PySem L2
/-! ### rows that can be done -/
theorem Ex.low_fine : ∀ {n : Nat} {e : Ex}, Ex.fine n e → Ex.low n e
  | 0, _, h => h
  | n + 1, .num i, h => by
    have hM : mostN = 999999999999999999999999999999 := rfl
    have h65 : (1000000 : Int) ^ 5 = 1000000000000000000000000000000 := by decide +kernel
    have h1 := h.1
    have h2 := h.2
    rw [h65] at h2
    show i.natAbs ≤ mostN
    omega
  | n + 1, .nam s, _ => trivial
  | n + 1, .op _ _ _, h => ⟨Ex.low_fine h.1, Ex.low_fine h.2⟩
def Rs.good (Ws : List Wk) : Rs → Prop
  | .nil => True
  | .put _ e t => Ex.low 6 e ∧ Rs.good Ws t
  | .go _ _ g es t => (∃ W ∈ Ws, W.name = g ∧ W.names.length = es.length) ∧ es.length ≤ 4 ∧ (∀ e ∈ es, Ex.low 6 e) ∧ Rs.good Ws t
  | .wait _ _ oe t => (∀ e, oe = some e → Ex.low 6 e) ∧ Rs.good Ws t
  | .iff e a b t => Ex.low 6 e ∧ Rs.good Ws a ∧ Rs.good Ws b ∧ Rs.good Ws t
  | .give _ e t => Ex.low 6 e ∧ Rs.good Ws t
def Rw.good (Ws : List Wk) : Rw → Prop
  | .put _ e => Ex.low 6 e
  | .go _ _ g es => (∃ W ∈ Ws, W.name = g ∧ W.names.length = es.length) ∧ es.length ≤ 4 ∧ ∀ e ∈ es, Ex.low 6 e
  | .wait _ _ oe => ∀ e, oe = some e → Ex.low 6 e
  | .iff e a b => Ex.low 6 e ∧ Rs.good Ws a ∧ Rs.good Ws b
  | .give _ e => Ex.low 6 e
theorem Rs.good_ok {Ws : List Wk} : ∀ {r : Rs} {n : Nat}, Rs.ok n r → (∀ st ∈ r.starts, ∃ W' ∈ Ws, W'.name = st.1 ∧ W'.names.length = st.2) → r.good Ws
  | .nil, _, _, _ => trivial
  | .put _ _ t, _, h, s => ⟨Ex.low_fine h.2.1, Rs.good_ok h.2.2 s⟩
  | .go _ _ g es t, _, h, s => ⟨s (g, es.length) List.mem_cons_self, h.2.2.1, fun e he => Ex.low_fine (h.2.2.2.1 e he), Rs.good_ok h.2.2.2.2 fun st hs => s st (List.mem_cons_of_mem _ hs)⟩
  | .wait _ _ _ t, _, h, s => ⟨fun e he => Ex.low_fine (h.2.2.1 e he), Rs.good_ok h.2.2.2 s⟩
  | .iff _ a b t, _, h, s => ⟨Ex.low_fine h.2.1, Rs.good_ok h.2.2.1 fun st hs => s st (List.mem_append_left _ (List.mem_append_left _ hs)), Rs.good_ok h.2.2.2.1 fun st hs => s st (List.mem_append_left _ (List.mem_append_right _ hs)), Rs.good_ok h.2.2.2.2 fun st hs => s st (List.mem_append_right _ hs)⟩
  | .give _ _ t, _, h, s => ⟨Ex.low_fine h.1, Rs.good_ok h.2 s⟩
theorem nxt_good {Ws : List Wk} : ∀ {ks : List Rs}, (∀ r ∈ ks, r.good Ws) → (nxt ks).1.good Ws ∧ ∀ r ∈ (nxt ks).2, r.good Ws
  | [], _ => ⟨(by show (0 : Int).natAbs ≤ mostN; decide), fun r hr => by cases hr⟩
  | .nil :: ks, h => nxt_good (ks := ks) fun r hr => h r (List.mem_cons_of_mem _ hr)
  | .put _ _ t :: ks, h => have g := h _ List.mem_cons_self; ⟨g.1, fun r hr => (List.mem_cons.mp hr).elim (fun e => e ▸ g.2) fun hr => h r (List.mem_cons_of_mem _ hr)⟩
  | .go _ _ _ _ t :: ks, h => have g := h _ List.mem_cons_self; ⟨⟨g.1, g.2.1, g.2.2.1⟩, fun r hr => (List.mem_cons.mp hr).elim (fun e => e ▸ g.2.2.2) fun hr => h r (List.mem_cons_of_mem _ hr)⟩
  | .wait _ _ _ t :: ks, h => have g := h _ List.mem_cons_self; ⟨g.1, fun r hr => (List.mem_cons.mp hr).elim (fun e => e ▸ g.2) fun hr => h r (List.mem_cons_of_mem _ hr)⟩
  | .iff _ _ _ t :: ks, h => have g := h _ List.mem_cons_self; ⟨⟨g.1, g.2.1, g.2.2.1⟩, fun r hr => (List.mem_cons.mp hr).elim (fun e => e ▸ g.2.2.2) fun hr => h r (List.mem_cons_of_mem _ hr)⟩
  | .give _ _ t :: ks, h => have g := h _ List.mem_cons_self; ⟨g.1, fun r hr => (List.mem_cons.mp hr).elim (fun e => e ▸ g.2) fun hr => h r (List.mem_cons_of_mem _ hr)⟩
/-! ### frames and tasks -/
structure Fr where
  (W : Wk) (ks : List Rs) (env : Str → Option Wt) (dp nr : Int) (sz : Nat)
structure Tk where
  (path : List Int) (frs : List Fr) (bg gs st : Int) (res : Option Rz)
def setE (env : Str → Option Wt) (x : Str) (v : Wt) : Str → Option Wt := fun y => if y = x then some v else env y
def envOf : List Str → List Wt → Str → Option Wt
  | x :: xs, v :: vs => setE (envOf xs vs) x v
  | _, _ => fun _ => none
def Fr.named (f : Fr) (x : Str) (v : Wt) (ks : List Rs) : Fr := { f with ks := ks, env := setE f.env x v, sz := f.sz + 1 }
def mkFr (W : Wk) (vs : List Wt) (dp nr : Int) : Fr := ⟨W, [W.rows], envOf W.names vs, dp, nr, 4⟩
def mkTk (p : List Int) (f : Fr) : Tk := ⟨p, [f], 1, 0, 0, none⟩
def workOf (Ws : List Wk) (g : Str) : Wk := (Ws.find? fun W => decide (W.name = g)).getD ⟨"", [], 0, .nil⟩
theorem workOf_eq {Ws : List Wk} {W : Wk} (nd : (Ws.map Wk.name).Nodup) (h : W ∈ Ws) : workOf Ws W.name = W := by
  unfold workOf
  cases e : Ws.find? fun V => decide (V.name = W.name) with
  | none =>
    have := List.find?_eq_none.mp e W h
    simp at this
  | some V =>
    have k := List.find?_some e
    exact nd_inj (V := V) nd (List.mem_of_find?_eq_some e) h (of_decide_eq_true k)
/-- the frame on top has given v -/
def gave (T : Tk) (v : Wt) : List Fr → Tk
  | [] => { T with frs := [], res := some (.gives v) }
  | c :: fs => match nxt c.ks with
    | (.go _ x _ _, ks) => { T with frs := c.named x v ks :: fs }
    | _ => T
def doRow (Ws : List Wk) (R : List (List Int × Rz)) (T : Tk) (f : Fr) (fs : List Fr) : Rw × List Rs → Except Int (Tk × Option Tk)
  | (.put x e, ks) => (e.ev f.env).bind fun v => .ok ({ T with frs := f.named x v ks :: fs }, none)
  | (.wait x y oe, ks) => (waitV R f.env y oe).bind fun v => .ok ({ T with frs := f.named x v ks :: fs }, none)
  | (.iff e a b, ks) => (e.evN f.env).bind fun i => .ok ({ T with frs := { f with ks := (if i = 0 then b else a) :: ks } :: fs }, none)
  | (.give true e, _) => (e.evN f.env).bind fun i => .error i
  | (.give false e, _) => (e.ev f.env).bind fun v => .ok (gave T v fs, none)
  | (.go true _ g es, _) => (handV f.env f.dp es).bind fun vs => .ok ({ T with bg := T.bg + 1, frs := mkFr (workOf Ws g) vs (f.dp + 1) T.bg :: f :: fs }, none)
  | (.go false x g es, ks) => (handV f.env f.dp es).bind fun vs => .ok ({ T with gs := T.gs + 1, frs := f.named x (.fut (T.path ++ [T.gs])) ks :: fs }, some (mkTk (T.path ++ [T.gs]) (mkFr (workOf Ws g) vs (f.dp + 1) 0)))
/-- what a step does to a task; the task that it starts -/
def tryRow (Ws : List Wk) (R : List (List Int × Rz)) (T : Tk) : Tk × Option Tk :=
  match T.frs with
  | [] => (T, none)
  | f :: fs => match doRow Ws R T f fs (nxt f.ks) with
    | .ok r => r
    | .error n => ({ T with frs := [], res := some (.fails n) }, none)
def rwW : Rw → Str
  | .put _ _ => "put"
  | .go w _ _ _ => goW w
  | .wait _ _ _ => "wait"
  | .give w _ => giveW w
  | .iff _ _ _ => "if"
/-! ### in memory -/
def FrRep (H : Hp) (CF x d c : Addr) (f : Fr) : Prop := ∃ (dx : Addr) (q : Nat) (rows : List V) (kvs : List (Key × V)), H x = some (.ins CF dx (frF ⟨c, d, f.W.room, f.dp, f.nr, (q : Int)⟩)) ∧ H c = some (.lst rows) ∧ CrsIn H (wcr f.W.rows) rows ∧ RowIs (wcr f.W.rows) q (nxt f.ks) ∧ EnvIn H d f.env ∧ H d = some (.dK kvs) ∧ kvs.length ≤ f.sz
theorem FrRep.keep {H H' : Hp} {CF x d c : Addr} {f : Fr} (h : Tups H H') (kx : ∀ o, H x = some o → H' x = some o) (kd : ∀ o, H d = some o → H' d = some o) (kc : ∀ o, H c = some o → H' c = some o) : FrRep H CF x d c f → FrRep H' CF x d c f
  | ⟨dx, q, rows, kvs, a1, a2, a3, a4, a5, a6, a7⟩ => ⟨dx, q, rows, kvs, kx _ a1, kc _ a2, a3.tups h, a4, a5.keep h kd, kd _ a6, a7⟩
def FrsRep (H : Hp) (CF : Addr) : List Addr → List Addr → List Addr → List Fr → Prop
  | x :: xs, d :: ds, c :: cs, f :: fs => FrRep H CF x d c f ∧ FrsRep H CF xs ds cs fs
  | [], [], [], [] => True
  | _, _, _, _ => False
theorem FrsRep.keep {H H' : Hp} {CF : Addr} (h : Tups H H') : ∀ {xs ds cs : List Addr} {fs : List Fr}, (∀ a ∈ xs, ∀ o, H a = some o → H' a = some o) → (∀ a ∈ ds, ∀ o, H a = some o → H' a = some o) → (∀ a ∈ cs, ∀ o, H a = some o → H' a = some o) → FrsRep H CF xs ds cs fs → FrsRep H' CF xs ds cs fs
  | x :: xs, d :: ds, c :: cs, f :: fs, kx, kd, kc, ⟨r, q⟩ => ⟨r.keep h (kx x List.mem_cons_self) (kd d List.mem_cons_self) (kc c List.mem_cons_self), FrsRep.keep h (fun a ha => kx a (List.mem_cons_of_mem _ ha)) (fun a ha => kd a (List.mem_cons_of_mem _ ha)) (fun a ha => kc a (List.mem_cons_of_mem _ ha)) q⟩
  | [], [], [], [], _, _, _, _ => trivial
theorem FrsRep.cons {H : Hp} {CF : Addr} {xs ds cs : List Addr} {f : Fr} {fs : List Fr} (h : FrsRep H CF xs ds cs (f :: fs)) : ∃ x xr d dr c cr, xs = x :: xr ∧ ds = d :: dr ∧ cs = c :: cr ∧ FrRep H CF x d c f ∧ FrsRep H CF xr dr cr fs := by
  cases xs with
  | nil => cases ds <;> cases cs <;> exact False.elim h
  | cons x xr => cases ds with
    | nil => exact False.elim h
    | cons d dr => cases cs with
      | nil => exact False.elim h
      | cons c cr => exact ⟨x, xr, d, dr, c, cr, rfl, rfl, rfl, h.1, h.2⟩
theorem FrsRep.nil {H : Hp} {CF : Addr} {xs ds cs : List Addr} (h : FrsRep H CF xs ds cs []) : xs = [] ∧ ds = [] ∧ cs = [] := by
  cases xs with
  | cons x xr => cases ds <;> cases cs <;> exact h.elim
  | nil => cases ds with
    | cons d dr => exact h.elim
    | nil => cases cs with
      | cons c cr => exact h.elim
      | nil => exact ⟨rfl, rfl, rfl⟩
theorem FrsRep.len {H : Hp} {CF : Addr} : ∀ {xs ds cs : List Addr} {fs : List Fr}, FrsRep H CF xs ds cs fs → xs.length = fs.length
  | x :: xs, d :: ds, c :: cs, f :: fs, ⟨_, q⟩ => by rw [List.length_cons, List.length_cons, FrsRep.len q]
  | [], [], [], [], _ => rfl
/-- what stands at the addresses of frames -/
theorem FrsRep.ins {H : Hp} {CF : Addr} : ∀ {xs ds cs : List Addr} {fs : List Fr}, FrsRep H CF xs ds cs fs → (∀ a ∈ xs, ∃ dx F, H a = some (.ins CF dx (frF F))) ∧ (∀ a ∈ ds, ∃ kvs, H a = some (.dK kvs)) ∧ (∀ a ∈ cs, ∃ us, H a = some (.lst us))
  | x :: xs, d :: ds, c :: cs, f :: fs, ⟨⟨dx, q, rows, kvs, a1, a2, a3, a4, a5, a6, a7⟩, r⟩ => by
    obtain ⟨k1, k2, k3⟩ := FrsRep.ins r
    exact ⟨fun a ha => (List.mem_cons.mp ha).elim (fun e => e ▸ ⟨dx, _, a1⟩) (k1 a), fun a ha => (List.mem_cons.mp ha).elim (fun e => e ▸ ⟨kvs, a6⟩) (k2 a), fun a ha => (List.mem_cons.mp ha).elim (fun e => e ▸ ⟨rows, a2⟩) (k3 a)⟩
  | [], [], [], [], _ => ⟨(fun a ha => by cases ha), (fun a ha => by cases ha), (fun a ha => by cases ha)⟩
def ORes (H : Hp) : Option Rz → V → Prop
  | none, v => v = .non
  | some r, v => r.ok ∧ RzIn H r v
theorem RzIn.tups {H H' : Hp} (h : Tups H H') : ∀ {r : Rz} {v : V}, RzIn H r v → RzIn H' r v
  | .gives _, _, ⟨a, u, e, k, q⟩ => ⟨a, u, e, h _ _ k, q.tups h⟩
  | .fails _, _, ⟨a, e, k⟩ => ⟨a, e, h _ _ k⟩
theorem ORes.tups {H H' : Hp} (h : Tups H H') : ∀ {r : Option Rz} {v : V}, ORes H r v → ORes H' r v
  | none, _, e => e
  | some _, _, e => ⟨e.1, e.2.tups h⟩
structure TkRep (H : Hp) (CT CF t l : Addr) (xs ds cs : List Addr) (T : Tk) : Prop where
  obj : ∃ (dt p : Addr) (rv : V), H t = some (.ins CT dt (tkF ⟨p, l, T.bg, T.gs, T.st, rv⟩)) ∧ H p = some (.tup (T.path.map V.int)) ∧ ORes H T.res rv
  lst : H l = some (.lst (xs.reverse.map V.ref))
  frs : FrsRep H CF xs ds cs T.frs
  ndx : xs.Nodup
  ndd : ds.Nodup
  lc : l ∉ cs
theorem TkRep.keep {H H' : Hp} {CT CF t l : Addr} {xs ds cs : List Addr} {T : Tk} (h : Tups H H') (kt : ∀ o, H t = some o → H' t = some o) (kl : ∀ o, H l = some o → H' l = some o) (kx : ∀ a ∈ xs, ∀ o, H a = some o → H' a = some o) (kd : ∀ a ∈ ds, ∀ o, H a = some o → H' a = some o) (kc : ∀ a ∈ cs, ∀ o, H a = some o → H' a = some o) (r : TkRep H CT CF t l xs ds cs T) : TkRep H' CT CF t l xs ds cs T := by
  obtain ⟨⟨dt, p, rv, a1, a2, a3⟩, b, c, d, e, f⟩ := r
  exact ⟨⟨dt, p, rv, kt _ a1, h _ _ a2, a3.tups h⟩, kl _ b, c.keep h kx kd kc, d, e, f⟩
theorem TkRep.same {H H' : Hp} {CT CF t l : Addr} {xs ds cs : List Addr} {T : Tk} (s : Same H H') (r : TkRep H CT CF t l xs ds cs T) : TkRep H' CT CF t l xs ds cs T :=
  r.keep (Same.tups s) (fun o e => s _ _ e) (fun o e => s _ _ e) (fun a _ o e => s _ _ e) (fun a _ o e => s _ _ e) (fun a _ o e => s _ _ e)
/-! ### jumps -/
theorem CrIn.word {H : Hp} : ∀ {c : Cr} {v : V}, (∀ p, c ≠ .jump p) → CrIn H c v → ∃ (a : Addr) (z : Str) (ts : List V), v = .ref a ∧ H a = some (.tup (.str z :: ts)) ∧ z ≠ "jump"
  | .put _ _, _, _, ⟨a, u, e, k, t⟩ => ⟨a, _, _, e, k, by decide⟩
  | .go w _ _ _, _, _, ⟨a, p, ws, e, k, kp, t⟩ => ⟨a, _, _, e, k, by cases w <;> decide⟩
  | .wait _ _ _, _, _, ⟨a, u, e, k, t⟩ => ⟨a, _, _, e, k, by decide⟩
  | .give w _, _, _, ⟨a, u, e, k, t⟩ => ⟨a, _, _, e, k, by cases w <;> decide⟩
  | .iff _ _, _, _, ⟨a, u, e, k, t⟩ => ⟨a, _, _, e, k, by decide⟩
  | .jump p, _, h, _ => absurd rfl (h p)
theorem jmp_of {H : Hp} {cd : List Cr} {rows : List V} (hC : CrsIn H cd rows) {n q q' : Nat} (j : JmpC cd n q q') : Jmp H rows n (q : Int) (q' : Int) := by
  induction j with
  | stop h1 h2 =>
    obtain ⟨v, hv, hin⟩ := hC.at_ h1
    obtain ⟨a, z, ts, rfl, ha, nz⟩ := CrIn.word h2 hin
    exact .stop (atI_nat hv) ha nz
  | go h1 _ ih =>
    obtain ⟨v, hv, a, rfl, ha⟩ := hC.at_ h1
    exact .go (atI_nat hv) ha ih
theorem row0 (rs : Rs) : RowIs (wcr rs) 0 (nxt [rs]) := by
  obtain ⟨n, q', j, r⟩ := cont_next (cont_start rs)
  cases j with
  | stop _ _ => exact r
  | go h _ =>
    exfalso
    cases rs with
    | nil => cases h
    | iff e a b t =>
      unfold wcr at h
      change (ifCr _ _ _ _ _ ++ _ ++ _)[0]? = _ at h
      unfold ifCr at h
      split at h <;> cases h
    | _ => cases h
/-! ### names -/
theorem EnvIn.put {H H' : Hp} {d : Addr} {env : Str → Option Wt} {kvs : List (Key × V)} {nm : Str} {y : Wt} {v : V} (hd : H d = some (.dK kvs)) (h : EnvIn H d env) (ok : y.ok) (ht : Tups H H') (hd2 : H' d = some (.dK (putK kvs (Sum.inr nm) v))) (hv : WtIn H' y v) : EnvIn H' d (setE env nm y) := by
  obtain ⟨kvs', hd', k⟩ := h
  have e : kvs' = kvs := by rw [hd] at hd'; cases hd'; rfl
  subst e
  refine ⟨_, hd2, fun nm' => ⟨fun x q => ?_, fun q => ?_⟩⟩
  · rw [valV_put]
    unfold setE at q
    by_cases c : nm' = nm
    · rw [if_pos c] at q
      cases q
      exact ⟨ok, v, by rw [if_pos (by rw [c])], hv⟩
    · rw [if_neg c] at q
      obtain ⟨a1, v', a2, a3⟩ := (k nm').1 x q
      exact ⟨a1, v', by rw [if_neg (fun z => c (Sum.inr.inj z))]; exact a2, a3.tups ht⟩
  · rw [valV_put]
    unfold setE at q
    by_cases c : nm' = nm
    · rw [if_pos c] at q; cases q
    · rw [if_neg c] at q
      rw [if_neg (fun z => c (Sum.inr.inj z))]
      exact (k nm').2 q
theorem envOf_at {H : Hp} : ∀ {ns : List Str} {xs : List Wt} {us : List V}, WtsIn H xs us → (∀ x ∈ xs, x.ok) → ∀ nm : Str, (∀ x, envOf ns xs nm = some x → x.ok ∧ ∃ v, valV ((ns.zip us).map fun p => (Sum.inr (α := Int) p.1, p.2)) (Sum.inr nm) = some v ∧ WtIn H x v) ∧ (envOf ns xs nm = none → valV ((ns.zip us).map fun p => (Sum.inr (α := Int) p.1, p.2)) (Sum.inr nm) = none)
  | [], xs, us, _, _, nm => ⟨(fun x q => by unfold envOf at q; cases xs <;> cases q), fun _ => rfl⟩
  | n :: ns, [], us, h, _, nm => by
    cases h
    exact ⟨(fun x q => by cases q), fun _ => rfl⟩
  | n :: ns, x0 :: xs, us, ⟨u, r, e, a, b⟩, ok, nm => by
    subst e
    have ih := envOf_at (ns := ns) b (fun x hx => ok x (List.mem_cons_of_mem _ hx)) nm
    show (∀ x, setE (envOf ns xs) n x0 nm = some x → _) ∧ (setE (envOf ns xs) n x0 nm = none → _)
    unfold setE
    by_cases c : nm = n
    · rw [if_pos c]
      refine ⟨fun x q => ?_, fun q => by cases q⟩
      cases q
      exact ⟨ok _ List.mem_cons_self, u, valV_pos (by rw [c]), a⟩
    · rw [if_neg c]
      have e : valV (((n :: ns).zip (u :: r)).map fun p => (Sum.inr (α := Int) p.1, p.2)) (Sum.inr nm) = valV ((ns.zip r).map fun p => (Sum.inr (α := Int) p.1, p.2)) (Sum.inr nm) := valV_neg (fun z => c (Sum.inr.inj z).symm)
      rw [e]
      exact ih
end SH

set_option Elab.async false
set_option linter.all false
set_option maxRecDepth 100000
namespace SH
open PySem L2
abbrev sStart : Stmt := topS 89
abbrev sCallW : Stmt := topS 90
theorem scStart : FnScope ["task", "row", "book", "frame", "path", "started"] ["task", "row", "book"] (defScope sStart) := ⟨rfl, rfl, rfl, by decide +kernel, rfl, by decide +kernel, by decide +kernel⟩
theorem scCallW : FnScope ["task", "row", "book", "frame"] ["task", "row", "book"] (defScope sCallW) := ⟨rfl, rfl, rfl, by decide +kernel, rfl, by decide +kernel, by decide +kernel⟩
def spStart (CB CT CF CK : Addr) : Sp := fun vs H Q E => ∃ (t dt x dx a p bk : Addr) (T : TkSt) (F : FrSt) (fs rows : List V) (z nm g : Str) (ws : List V) (es : List Ex) (env : Str → Option Wt) (Ws : List Wk) (W : Wk) (kvs : List (Key × V)) (pa : List Int) (n : Nat) (p1 : Int),
  vs = [.ref t, .ref a, .ref bk] ∧ H t = some (.ins CT dt (tkF T)) ∧ H T.p = some (.tup (pa.map V.int)) ∧ pa.length ≤ 1000 ∧ H T.l = some (.lst (fs ++ [.ref x])) ∧ H x = some (.ins CF dx (frF F)) ∧ H a = some (.tup [.str z, .str nm, .str g, .ref p]) ∧ H p = some (.tup ws) ∧ TrsIn H es ws ∧ (∀ e ∈ es, Ex.low 6 e) ∧ es.length ≤ 4 ∧ EnvIn H F.d env ∧
  H F.d = some (.dK kvs) ∧ kvs.length < 1000000 ∧ H F.c = some (.lst rows) ∧ Jmp H rows n (F.pl + 1) p1 ∧ BkIn H CK bk Ws ∧ (Ws.map Wk.name).Nodup ∧ W ∈ Ws ∧ W.name = g ∧ W.ok ∧ W.names.length = es.length ∧
  match handV env F.dp es with
  | .error n => ∀ H', Same H H' → Brk CB H' E n
  | .ok xs => ∀ (t2 dt2 l2 y d c dy pa2 fa : Addr) (rows' us : List V) (H' : Hp), (∀ b o, b ≠ t → b ≠ x → b ≠ F.d → H b = some o → H' b = some o) → H t2 = none → H l2 = none → H y = none → H d = none → H c = none →
    H' t = some (.ins CT dt (tkF { T with gs := T.gs + 1 })) → H' x = some (.ins CF dx (frF { F with pl := p1 })) → H' F.d = some (.dK (putK kvs (Sum.inr nm) (.ref fa))) → H' fa = some (.tup [.str "future", .ref pa2]) → H' pa2 = some (.tup ((pa ++ [T.gs]).map V.int)) →
    H' t2 = some (.ins CT dt2 (tkF ⟨pa2, l2, 1, 0, 0, .non⟩)) → H' l2 = some (.lst [.ref y]) → H' y = some (.ins CF dy (frF ⟨c, d, W.room, F.dp + 1, 0, 0⟩)) → H' c = some (.lst rows') → CrsIn H' (wcr W.rows) rows' → H' d = some (.dK ((W.names.zip us).map fun p => (Sum.inr p.1, p.2))) → WtsIn H' xs us → Q (.ref t2) H'
def spCallW (CB CT CF CK : Addr) : Sp := fun vs H Q E => ∃ (t dt x a p bk : Addr) (T : TkSt) (F : FrSt) (fs : List V) (z nm g : Str) (ws : List V) (es : List Ex) (env : Str → Option Wt) (Ws : List Wk) (W : Wk),
  vs = [.ref t, .ref a, .ref bk] ∧ H t = some (.ins CT dt (tkF T)) ∧ H T.l = some (.lst (fs ++ [.ref x])) ∧ fs.length ≤ 1000 ∧ FrAt H CF x F ∧ H a = some (.tup [.str z, .str nm, .str g, .ref p]) ∧ H p = some (.tup ws) ∧ TrsIn H es ws ∧ (∀ e ∈ es, Ex.low 6 e) ∧ es.length ≤ 4 ∧ EnvIn H F.d env ∧
  BkIn H CK bk Ws ∧ (Ws.map Wk.name).Nodup ∧ W ∈ Ws ∧ W.name = g ∧ W.ok ∧ W.names.length = es.length ∧
  match handV env F.dp es with
  | .error n => ∀ H', Same H H' → Brk CB H' E n
  | .ok xs => ∀ (y d c dy : Addr) (rows' us : List V) (H' : Hp), (∀ b o, b ≠ t → b ≠ T.l → H b = some o → H' b = some o) → H y = none → H d = none → H c = none →
    H' t = some (.ins CT dt (tkF { T with bg := T.bg + 1 })) → H' T.l = some (.lst ((fs ++ [.ref x]) ++ [.ref y])) → H' y = some (.ins CF dy (frF ⟨c, d, W.room, F.dp + 1, T.bg, 0⟩)) → H' c = some (.lst rows') → CrsIn H' (wcr W.rows) rows' → H' d = some (.dK ((W.names.zip us).map fun p => (Sum.inr p.1, p.2))) → WtsIn H' xs us → Q .non H'
theorem ne_tf {C d C' d' : Addr} {T : TkSt} {F : FrSt} (h : HO.ins C d (tkF T) = HO.ins C' d' (frF F)) : False := by
  injection h with _ _ h
  injection h with h
  injection h with h
  revert h
  decide
section
variable {P : Program} {w : World} {K : PySem.W.Frag} {mg : Str → Option Value} {base : Heap} {CB fB : Addr} {B newId i0 : String} {bmB : List Value}
theorem ok_callW {f a1 CT CF CK : Addr} {fd d1 : FuncData} {g : List Value → List Value → List Value} (F : Fun K "call_work" "call_work" sCallW f fd) (TT : TkT K CT) (BG : FkN P w K mg base (L2.CX P w) 11 "begun_frame" a1 d1 ["frame", "row", "book", "number"] (spBegun CB CF CK)) (kB1 : KBn K d1 ["frame", "row", "book", "number"] 3 ["number"] g (fun vs zs => vs ++ zs)) : FnOk P w K mg base (L2.CX P w) 12 f fd ["task", "row", "book"] (spCallW CB CT CF CK) := by
  refine F.okX scCallW (fun vs H Q E h => ?_) (fun cdv A outer s H vs Q E hr h => ?_)
  · obtain ⟨t, dt, x, a, p, bk, T, F, fs, z, nm, g, ws, es, env, Ws, W, rfl, _⟩ := h
    rfl
  obtain ⟨t, dt, x, a, p, bk, T, F, fs, z, nm, g, ws, es, env, Ws, W, rfl, ht, hl, lf, hx, ha, hp, hT, lo, le, hE, hB, nd, hW, eW, ok, ln, q⟩ := h
  refine ⟨_, (pss_cons (ps_set (i := 3) scCallW.nd rfl (Or.inl rfl) (pe_callN BG.G (hr.mono (by omega)) (by rfl) BG.m BG.k kB1 (passX (takes_of rfl rfl rfl rfl)) (pa_cons (pe_ix ix_list (pe_fld (pv 0) rfl) (pe_un un_neg pe_int) (fun _ _ => rfl)) (pa_cons (pv 1) (pa_cons (pv 2) pa_nil))) (pk_cons (pe_fld (pv 0) rfl) pk_nil)))
    (pss_cons (ps_fldaug (pv 0) pe_int in_add)
    (pss_one (ps_expr (pe_bm PySem.F.plainAttrs_list PySem.F.slot_list_append PySem.F.type_list_append mt_append (pe_fld (pv 0) rfl) (pa_cons (pv 3) pa_nil)))))), ?_⟩
  refine ⟨_, rfl, t, CT, dt, _, _, rfl, ht, TT.cl, TT.frames, rfl, _, rfl, T.l, _, -1, _, rfl, rfl, SqL.of hl, atI_last _ _, _, rfl, _, rfl, ?_⟩
  refine ⟨_, rfl, t, CT, dt, _, _, rfl, ht, TT.cl, TT.begun, rfl, rfl, rfl, x, a, p, bk, T.bg, F, z, nm, g, ws, es, env, Ws, W, rfl, hx, ha, hp, hT, lo, le, hE, hB, nd, hW, eW, ok, ln, ?_⟩
  cases h1 : handV env F.dp es with
  | error n => rw [h1] at q; exact q
  | ok xs =>
  rw [h1] at q
  intro y d c dy rows us H1 s1 n1 n2 n3 k1 k2 k3 k4 k5
  have ht1 := s1 _ _ ht
  have hl1 := s1 _ _ hl
  have hs : sizeLine = 16777216 := by decide
  have ntl : t ≠ T.l := fun e => by rw [e, hl] at ht; cases ht
  have nyt : y ≠ t := fun e => by rw [e, ht] at n1; cases n1
  have nyl : y ≠ T.l := fun e => by rw [e, hl] at n1; cases n1
  have ndt : d ≠ t := fun e => by rw [e, ht] at n2; cases n2
  have ndl : d ≠ T.l := fun e => by rw [e, hl] at n2; cases n2
  have nct : c ≠ t := fun e => by rw [e, ht] at n3; cases n3
  have ncl : c ≠ T.l := fun e => by rw [e, hl] at n3; cases n3
  refine ⟨_, rfl, t, CT, dt, _, _, rfl, ht1, TT.cl, TT.begun, rfl, _, _, rfl, rfl, dt, _, ht1, (by show 6 < 1000; decide), ?_⟩
  have hl2 : upd H1 t (.ins CT dt (tkF { T with bg := T.bg + 1 })) T.l = some (.lst (fs ++ [.ref x])) := by rw [upd_ne (Ne.symm ntl)]; exact hl1
  have tu : Tups H1 (upd (upd H1 t (.ins CT dt (tkF { T with bg := T.bg + 1 }))) T.l (.lst ((fs ++ [V.ref x]) ++ [V.ref y]))) := fun b us e => by
    rw [upd_ne (fun z => by rw [z, hl1] at e; cases e), upd_ne (fun z => by rw [z, ht1] at e; cases e)]
    exact e
  refine ⟨_, rfl, t, CT, dt, _, _, rfl, upd_same, TT.cl, TT.frames, rfl, .inl ⟨rfl, _, SqL.of hl2⟩, _, rfl, T.l, _, _, rfl, rfl, hl2, by rw [List.length_append, List.length_singleton]; omega, ?_⟩
  refine q y d c dy rows us _ (fun b o nb1 nb2 e => ?_) n1 n2 n3 ?_ upd_same ?_ ?_ (k3.tups tu) ?_ (k5.tups tu)
  · rw [upd_ne nb2, upd_ne nb1]; exact s1 _ _ e
  · rw [upd_ne ntl]; exact upd_same
  · rw [upd_ne nyl, upd_ne nyt]; exact k1
  · rw [upd_ne ncl, upd_ne nct]; exact k2
  · rw [upd_ne ndl, upd_ne ndt]; exact k4
theorem ok_start {f a1 a2 a3 CT CF CK : Addr} {fd d1 d2 d3 : FuncData} {g : List Value → List Value → List Value} (F : Fun K "start_task" "start_task" sStart f fd) (TT : TkT K CT) (BG : FkN P w K mg base (L2.CX P w) 11 "begun_frame" a1 d1 ["frame", "row", "book", "number"] (spBegun CB CF CK)) (kB0 : KBn K d1 ["frame", "row", "book", "number"] 3 [] g (fun vs _ => vs ++ [V.int 0]))
    (TI : MkF P w K mg base 1 "Task" CT a2 d2 ["self", "path", "frames"] (spTaskInit CT)) (bT : Binds K d2 ["self", "path", "frames"] []) (NM : Fk P w K mg base 2 "name_and_move" a3 d3 ["frame", "name", "worth"] (spNameMove CF)) : FnOk P w K mg base (L2.CX P w) 12 f fd ["task", "row", "book"] (spStart CB CT CF CK) := by
  refine F.okX scStart (fun vs H Q E h => ?_) (fun cdv A outer s H vs Q E hr h => ?_)
  · obtain ⟨t, dt, x, dx, a, p, bk, T, F, fs, rows, z, nm, g, ws, es, env, Ws, W, kvs, pa, n, p1, rfl, _⟩ := h
    rfl
  obtain ⟨t, dt, x, dx, a, p, bk, T, F, fs, rows, z, nm, g, ws, es, env, Ws, W, kvs, pa, n, p1, rfl, ht, hpa, lpa, hl, hx, ha, hp, hT, lo, le, hE, hd, lk, hc, hJ, hB, nd, hW, eW, ok, ln, q⟩ := h
  refine ⟨_, (pss_cons (ps_set (i := 3) scStart.nd rfl (Or.inl rfl) (pe_ix ix_list (pe_fld (pv 0) rfl) (pe_un un_neg pe_int) (fun _ _ => rfl)))
    (pss_cons (ps_set (i := 4) scStart.nd rfl (Or.inl rfl) (pe_tup (StX.pa_star (pe_fld (pv 0) rfl) (pa_cons (pe_fld (pv 0) rfl) pa_nil))))
    (pss_cons (ps_set (i := 5) scStart.nd rfl (Or.inl rfl) (pe_make TI.M TI.G (hr.mono (by omega)) (by rfl) TI.m bT .nil pass0 (pa_cons (pv 4) (pa_cons (pe_lst (pa_cons (pe_callN BG.G (hr.mono (by omega)) (by rfl) BG.m BG.k kB0 (passX (takes_of rfl rfl rfl rfl)) (pa_cons (pv 3) (pa_cons (pv 1) (pa_cons (pv 2) pa_nil))) pk_nil) pa_nil)) pa_nil))))
    (pss_cons (ps_fldaug (pv 0) pe_int in_add)
    (pss_cons (ps_expr (pe_call NM.G (hr.mono (by omega)) (by rfl) NM.m NM.k NM.b .nil pass0 (pa_cons (pv 3) (pa_cons (pe_ix ix_tup (pv 1) pe_int (fun _ _ => rfl)) (pa_cons (pe_tup (pa_cons pe_str (pa_cons (pv 4) pa_nil))) pa_nil)))))
    (pss_one (ps_ret (pv 5)))))))), ?_⟩
  have hs : sizeLine = 16777216 := by decide
  refine ⟨_, rfl, t, CT, dt, _, _, rfl, ht, TT.cl, TT.frames, rfl, _, rfl, T.l, _, -1, _, rfl, rfl, SqL.of hl, atI_last _ _, ?_⟩
  refine ⟨_, rfl, t, CT, dt, _, _, rfl, ht, TT.cl, TT.path, rfl, ?_⟩
  refine ⟨T.p, _, rfl, .inl (SqT.of hpa), _, rfl, t, CT, dt, _, _, rfl, ht, TT.cl, TT.goes, rfl, (by rw [List.length_append, List.length_map, List.length_singleton]; omega), fun pp npp => ?_⟩
  have e0 : pa.map V.int ++ [V.int T.gs] = (pa ++ [T.gs]).map V.int := by rw [List.map_append]; rfl
  rw [e0]
  have s0 := same_new npp (.tup ((pa ++ [T.gs]).map V.int))
  have hpp := upd_same (H := H) (a := pp) (o := .tup ((pa ++ [T.gs]).map V.int))
  generalize upd H pp (.tup ((pa ++ [T.gs]).map V.int)) = H0 at s0 hpp ⊢
  obtain ⟨dk, pk, uk, hk, hpk, hWs⟩ := hB
  refine ⟨_, rfl, _, rfl, _, rfl, _, rfl, rfl, rfl, x, a, p, bk, 0, F, z, nm, g, ws, es, env, Ws, W, rfl, ⟨dx, s0 _ _ hx⟩, s0 _ _ ha, s0 _ _ hp, hT.same s0, lo, le, hE.same s0, ⟨dk, pk, uk, s0 _ _ hk, s0 _ _ hpk, hWs.same s0⟩, nd, hW, eW, ok, ln, ?_⟩
  cases h1 : handV env F.dp es with
  | error n => rw [h1] at q; exact fun H' s' => q H' (s0.trans s')
  | ok xs =>
  rw [h1] at q
  intro y d c dy rows' us H1 s1 n1 n2 n3 k1 k2 k3 k4 k5
  refine ⟨(by show 1 ≤ sizeLine; decide), fun l2 nl2 => ?_⟩
  have s2 := same_new nl2 (.lst [V.ref y])
  have hl2 := upd_same (H := H1) (a := l2) (o := .lst [V.ref y])
  have s12 := s0.trans s1
  have f2 := s12.free nl2
  generalize upd H1 l2 (.lst [V.ref y]) = H2 at s2 hl2 ⊢
  intro t2 dt2 nt2 ndt2 ne2
  have s3 := made_same nt2 ndt2 ne2 (CF := CT) (fs := tkF ⟨pp, l2, 1, 0, 0, .non⟩)
  have g2 := s12.trans s2
  have ft2 := g2.free nt2
  refine ⟨t2, dt2, pp, l2, [V.ref y], rfl, upd_same, ?_, rfl, ?_⟩
  · rw [upd_ne (fun e => by rw [e, nt2] at hl2; cases hl2), upd_ne (fun e => by rw [e, ndt2] at hl2; cases hl2)]
    exact hl2
  have ht2 := upd_same (H := upd (upd H2 dt2 (.own t2)) t2 (.ins CT dt2 [])) (a := t2) (o := .ins CT dt2 (tkF ⟨pp, l2, 1, 0, 0, .non⟩))
  show gName 5 (V.ref t2) _ (upd (upd (upd H2 dt2 (.own t2)) t2 (.ins CT dt2 [])) t2 (.ins CT dt2 (tkF ⟨pp, l2, 1, 0, 0, .non⟩))) _
  generalize upd (upd (upd H2 dt2 (.own t2)) t2 (.ins CT dt2 [])) t2 (.ins CT dt2 (tkF ⟨pp, l2, 1, 0, 0, .non⟩)) = H3 at s3 ht2 ⊢
  have g3 := g2.trans s3
  have ht3 := g3 _ _ ht
  refine ⟨_, rfl, t, CT, dt, _, _, rfl, ht3, TT.cl, TT.goes, rfl, _, _, rfl, rfl, dt, _, ht3, (by show 6 < 1000; decide), ?_⟩
  have m4 : ∀ b o, b ≠ t → H3 b = some o → upd H3 t (.ins CT dt (tkF { T with gs := T.gs + 1 })) b = some o := fun b o nb e => by rw [upd_ne nb]; exact e
  have ht4 := upd_same (H := H3) (a := t) (o := .ins CT dt (tkF { T with gs := T.gs + 1 }))
  show tSeq _ _ _ _ (upd H3 t (.ins CT dt (tkF { T with gs := T.gs + 1 })))
  generalize upd H3 t (.ins CT dt (tkF { T with gs := T.gs + 1 })) = H4 at m4 ht4 ⊢
  have nt : ∀ {b : Addr} {o : HO}, H b = some o → b ≠ t → H4 b = some o := fun e nb => m4 _ _ nb (g3 _ _ e)
  have hx4 := nt hx (fun e => by rw [e, ht] at hx; exact ne_tf (Option.some.inj hx))
  have nFt : F.d ≠ t := fun e => by rw [e, ht] at hd; cases hd
  have hd4 := nt hd nFt
  have hc4 := nt hc (fun e => by rw [e, ht] at hc; cases hc)
  have tu4 : Tups H H4 := fun b vs e => nt e (fun z => by rw [z, ht] at e; cases e)
  refine ⟨_, rfl, _, rfl, a, _, 1, _, rfl, rfl, SqT.of (tu4 _ _ ha), atI_nat (j := 1) rfl, _, rfl, (by show 2 ≤ sizeLine; decide), fun fa nfa => ?_⟩
  have s5 := same_new nfa (.tup [V.str "future", .ref pp])
  have hfa := upd_same (H := H4) (a := fa) (o := .tup [V.str "future", .ref pp])
  generalize upd H4 fa (.tup [V.str "future", .ref pp]) = H5 at s5 hfa ⊢
  refine ⟨x, dx, F, rows, kvs, nm, .ref fa, n, p1, rfl, s5 _ _ hx4, s5 _ _ hc4, s5 _ _ hd4, lk, hJ.mono (fun b vs e => s5 _ _ (tu4 _ _ e)), ?_⟩
  refine ⟨_, rfl, ?_⟩
  have nxd : x ≠ F.d := fun e => by rw [e, hd] at hx; cases hx
  have new : ∀ {b : Addr} {o : HO}, H b = none → H3 b = some o → upd (upd H5 F.d (.dK (putK kvs (Sum.inr nm) (.ref fa)))) x (.ins CF dx (frF { F with pl := p1 })) b = some o := fun {b o} nb e => by
    rw [upd_ne (fun z => by rw [z, hx] at nb; cases nb), upd_ne (fun z => by rw [z, hd] at nb; cases nb)]
    exact s5 _ _ (m4 _ _ (fun z => by rw [z, ht] at nb; cases nb) e)
  have old : ∀ {b : Addr} {o : HO}, b ≠ x → b ≠ F.d → H5 b = some o → upd (upd H5 F.d (.dK (putK kvs (Sum.inr nm) (.ref fa)))) x (.ins CF dx (frF { F with pl := p1 })) b = some o := fun nb1 nb2 e => by
    rw [upd_ne nb1, upd_ne nb2]
    exact e
  have tu : Tups H1 (upd (upd H5 F.d (.dK (putK kvs (Sum.inr nm) (.ref fa)))) x (.ins CF dx (frF { F with pl := p1 }))) := fun b vs e => by
    have e3 := (s2.trans s3) _ _ e
    refine old (fun z => ?_) (fun z => ?_) (s5 _ _ (m4 _ _ (fun z => ?_) e3))
    · rw [z, s12 _ _ hx] at e; cases e
    · rw [z, s12 _ _ hd] at e; cases e
    · rw [z, s12 _ _ ht] at e; cases e
  refine q t2 dt2 l2 y d c dy pp fa rows' us _ (fun b o nb1 nb2 nb3 e => old nb2 nb3 (s5 _ _ (nt e nb1))) ft2 f2 (s0.free n1) (s0.free n2) (s0.free n3) ?_ upd_same ?_ ?_ ?_ (new ft2 ht2) (new f2 (s3 _ _ hl2)) (new (s0.free n1) ((s2.trans s3) _ _ k1)) (new (s0.free n3) ((s2.trans s3) _ _ k2)) (k3.tups tu) (new (s0.free n2) ((s2.trans s3) _ _ k4)) (k5.tups tu)
  · exact old (fun e => by rw [← e, ht] at hx; exact ne_tf (Option.some.inj hx)) (Ne.symm nFt) (s5 _ _ ht4)
  · rw [upd_ne (Ne.symm nxd)]; exact upd_same
  · have h5 := s5 _ _ hd4
    exact old (fun e => by rw [e, s5 _ _ hx4] at hfa; cases hfa) (fun e => by rw [e, h5] at hfa; cases hfa) hfa
  · have e3 := (s1.trans (s2.trans s3)) _ _ hpp
    exact new npp e3
end
end SH

set_option Elab.async false
set_option linter.all false
set_option maxRecDepth 100000
namespace SH
open PySem L2
/-! ### numbers that tasks fail with -/
def nOk (n : Int) : Prop := n.natAbs ≤ mostN
theorem nOk5 {n : Int} (h : n = -1 ∨ n = -2 ∨ n = -3 ∨ n = -4 ∨ n = -5) : nOk n := by
  rcases h with rfl | rfl | rfl | rfl | rfl <;> (show _ ≤ mostN; decide)
theorem asNum_err {x : Wt} {n : Int} (h : asNum x = .error n) : nOk n := by
  cases x with
  | num i => cases h
  | fut p => cases h; exact nOk5 (by decide)
theorem ite_err {p : Prop} [Decidable p] {a n : Int} (h : (if p then Except.ok a else Except.error (-4 : Int)) = Except.error n) : nOk n := by
  split at h
  · cases h
  · cases h; exact nOk5 (by decide)
theorem Sg.run_err {g : Sg} {i j n : Int} (h : g.run i j = .error n) : nOk n := by
  cases g with
  | lt => cases h
  | eq => cases h
  | add => exact ite_err h
  | sub => exact ite_err h
  | mul => exact ite_err h
theorem Ex.ev_err {env : Str → Option Wt} : ∀ {e : Ex} {n : Int}, e.ev env = .error n → nOk n
  | .num i, n, h => by cases h
  | .nam s, n, h => by
    unfold Ex.ev at h
    split at h
    · cases h
    · cases h; exact nOk5 (by decide)
  | .op g l r, n, q => by
    unfold Ex.ev at q
    cases h1 : l.ev env with
    | error m => rw [h1] at q; cases q; exact Ex.ev_err h1
    | ok a =>
    rw [h1] at q
    change (r.ev env).bind _ = _ at q
    cases h2 : r.ev env with
    | error m => rw [h2] at q; cases q; exact Ex.ev_err h2
    | ok b =>
    rw [h2] at q
    change (asNum a).bind _ = _ at q
    cases h3 : asNum a with
    | error m => rw [h3] at q; cases q; exact asNum_err h3
    | ok i =>
    rw [h3] at q
    change (asNum b).bind _ = _ at q
    cases h4 : asNum b with
    | error m => rw [h4] at q; cases q; exact asNum_err h4
    | ok j =>
    rw [h4] at q
    change (g.run i j).bind _ = _ at q
    cases h5 : g.run i j with
    | error m => rw [h5] at q; cases q; exact Sg.run_err h5
    | ok k => rw [h5] at q; cases q
theorem Ex.evN_err {env : Str → Option Wt} {e : Ex} {n : Int} (h : e.evN env = .error n) : nOk n := by
  unfold Ex.evN at h
  cases h1 : e.ev env with
  | error m => rw [h1] at h; cases h; exact Ex.ev_err h1
  | ok x => rw [h1] at h; exact asNum_err h
theorem evs_err {env : Str → Option Wt} : ∀ {es : List Ex} {n : Int}, evs env es = .error n → nOk n
  | [], n, h => by cases h
  | e :: es, n, h => by
    unfold evs at h
    cases h1 : e.ev env with
    | error m => rw [h1] at h; cases h; exact Ex.ev_err h1
    | ok v =>
      rw [h1] at h
      change (evs env es).bind _ = _ at h
      cases h2 : evs env es with
      | error m => rw [h2] at h; cases h; exact evs_err h2
      | ok vs => rw [h2] at h; cases h
theorem handV_err {env : Str → Option Wt} {dp : Int} {es : List Ex} {n : Int} (h : handV env dp es = .error n) : nOk n := by
  unfold handV at h
  cases h2 : evs env es with
  | error m => rw [h2] at h; cases h; exact evs_err h2
  | ok vs =>
    rw [h2] at h
    change (if dp ≥ 30 then Except.error (-5) else Except.ok vs) = _ at h
    split at h
    · cases h; exact nOk5 (by decide)
    · cases h
theorem evs_ok {env : Str → Option Wt} (he : ∀ nm x, env nm = some x → x.ok) : ∀ {es : List Ex} {xs : List Wt}, (∀ e ∈ es, Ex.low 6 e) → evs env es = .ok xs → ∀ x ∈ xs, x.ok
  | [], xs, _, h => by cases h; exact fun x hx => by cases hx
  | e :: es, xs, lo, h => by
    unfold evs at h
    cases h1 : e.ev env with
    | error m => rw [h1] at h; cases h
    | ok v =>
      rw [h1] at h
      change (evs env es).bind _ = _ at h
      cases h2 : evs env es with
      | error m => rw [h2] at h; cases h
      | ok vs =>
        rw [h2] at h
        cases h
        exact fun x hx => (List.mem_cons.mp hx).elim (fun z => z ▸ Ex.ev_ok he 6 e v (lo e List.mem_cons_self) h1) (evs_ok he (fun e he => lo e (List.mem_cons_of_mem _ he)) h2 x)
def ROk (R : List (List Int × Rz)) : Prop := ∀ p r, R.lookup p = some r → r.ok
theorem ResAt.ok {H : Hp} {d : Addr} {R : List (List Int × Rz)} : ResAt H d R → ROk R
  | ⟨_, _, h⟩ => fun p r e => ((h.look p).1 r e).1
def Rdy (R : List (List Int × Rz)) (f : Fr) : Prop := ∀ x y oe ks, nxt f.ks = (.wait x y oe, ks) → ∀ p, f.env y = some (.fut p) → ∃ r, R.lookup p = some r
theorem waitV_out {R : List (List Int × Rz)} {env : Str → Option Wt} {y : Str} {oe : Option Ex} (hR : ROk R) (he : ∀ nm x, env nm = some x → x.ok) (lo : ∀ e, oe = some e → Ex.low 6 e) (rd : ∀ p, env y = some (.fut p) → ∃ r, R.lookup p = some r) : (∀ n, waitV R env y oe = .error n → nOk n) ∧ ∀ x, waitV R env y oe = .ok x → x.ok := by
  unfold waitV
  cases h1 : env y with
  | none => exact ⟨fun n h => by cases h; exact nOk5 (by decide), fun x h => by cases h⟩
  | some w =>
  cases w with
  | num i => exact ⟨fun n h => by cases h; exact nOk5 (by decide), fun x h => by cases h⟩
  | fut p =>
  obtain ⟨r, hr⟩ := rd p h1
  have rok := hR p r hr
  cases r with
  | gives v => simp only [hr]; exact ⟨fun n h => (by cases h), fun x h => (by cases h; exact rok)⟩
  | fails m =>
    simp only [hr]
    cases oe with
    | none => exact ⟨fun n h => (by cases h; exact rok), fun x h => (by cases h)⟩
    | some e => exact ⟨fun n h => Ex.ev_err h, fun x h => Ex.ev_ok he 6 e x (lo e rfl) h⟩
/-! ### what a task keeps to -/
structure FrOk (Ws : List Wk) (f : Fr) : Prop where
  mem : f.W ∈ Ws
  good : ∀ r ∈ f.ks, r.good Ws
def Calling (f : Fr) : Prop := ∃ x g es ks, nxt f.ks = (.go true x g es, ks)
def DpOk (k : Nat) : List Fr → Prop
  | [] => True
  | f :: fs => ((k + (fs.length + 1) : Nat) : Int) ≤ f.dp ∧ f.dp ≤ 30 ∧ DpOk k fs
structure TkOk (Ws : List Wk) (N : Nat) (T : Tk) : Prop where
  each : ∀ f ∈ T.frs, FrOk Ws f
  tail : ∀ f ∈ T.frs.tail, Calling f
  sz : ∀ f ∈ T.frs, f.sz ≤ N
  dps : DpOk T.path.length T.frs
/-! ### specs that bear more -/
theorem monoStart {CB CT CF CK : Addr} : MonoSp (spStart CB CT CF CK) := by
  rintro vs H Q Q' E E' hQ hE ⟨t, dt, x, dx, a, p, bk, T, F, fs, rows, z, nm, g, ws, es, env, Ws, W, kvs, pa, n, p1, e, b1, b2, b3, b4, b5, b6, b7, b8, b9, b10, b11, b12, b13, b14, b15, b16, b17, b18, b19, b20, b21, q⟩
  refine ⟨t, dt, x, dx, a, p, bk, T, F, fs, rows, z, nm, g, ws, es, env, Ws, W, kvs, pa, n, p1, e, b1, b2, b3, b4, b5, b6, b7, b8, b9, b10, b11, b12, b13, b14, b15, b16, b17, b18, b19, b20, b21, ?_⟩
  cases h : handV env F.dp es with
  | error n => rw [h] at q; exact fun H' s y hy => hE _ _ _ (q H' s y hy)
  | ok xs => rw [h] at q; exact fun t2 dt2 l2 y d c dy pa2 fa rows' us H' c0 c1 c2 c3 c4 c5 c6 c7 c8 c9 c10 c11 c12 c13 c14 c15 c16 c17 => hQ _ _ (q t2 dt2 l2 y d c dy pa2 fa rows' us H' c0 c1 c2 c3 c4 c5 c6 c7 c8 c9 c10 c11 c12 c13 c14 c15 c16 c17)
theorem monoCallW {CB CT CF CK : Addr} : MonoSp (spCallW CB CT CF CK) := by
  rintro vs H Q Q' E E' hQ hE ⟨t, dt, x, a, p, bk, T, F, fs, z, nm, g, ws, es, env, Ws, W, e, b1, b2, b3, b4, b5, b6, b7, b8, b9, b10, b11, b12, b13, b14, b15, b16, q⟩
  refine ⟨t, dt, x, a, p, bk, T, F, fs, z, nm, g, ws, es, env, Ws, W, e, b1, b2, b3, b4, b5, b6, b7, b8, b9, b10, b11, b12, b13, b14, b15, b16, ?_⟩
  cases h : handV env F.dp es with
  | error n => rw [h] at q; exact fun H' s y hy => hE _ _ _ (q H' s y hy)
  | ok xs => rw [h] at q; exact fun y d c dy rows' us H' c0 c1 c2 c3 c4 c5 c6 c7 c8 c9 c10 => hQ _ _ (q y d c dy rows' us H' c0 c1 c2 c3 c4 c5 c6 c7 c8 c9 c10)
theorem monoWaitW {CB CF : Addr} : MonoSp (spWaitW CB CF) := by
  rintro vs H Q Q' E E' hQ hE ⟨a, x, rd, F, u, v, nm, z, oe, env, R, e, b1, b2, b3, b4, b5, b6, b7, q⟩
  exact ⟨a, x, rd, F, u, v, nm, z, oe, env, R, e, b1, b2, b3, b4, b5, b6, b7, q.mono hQ hE⟩
/-! ### a row is tried -/
def Fresh (H : Hp) (xs ys : List Addr) : Prop := ∀ a ∈ ys, a ∈ xs ∨ H a = none
theorem Fresh.rfl {H : Hp} {xs : List Addr} : Fresh H xs xs := fun a h => .inl h
def StIn (H H' : Hp) (CT CF : Addr) : Option Tk → V → Prop
  | none, v => v = .non
  | some S, v => ∃ t2 l2 y d c, v = .ref t2 ∧ TkRep H' CT CF t2 l2 [y] [d] [c] S ∧ H t2 = none ∧ H l2 = none ∧ H y = none ∧ H d = none ∧ H c = none
def begunB (Ws : List Wk) (R : List (List Int × Rz)) (T : Tk) : Bool :=
  match T.frs with
  | [] => false
  | f :: fs => match doRow Ws R T f fs (nxt f.ks) with
    | .ok _ => (match (nxt f.ks).1 with | .go _ _ _ _ => true | _ => false)
    | .error _ => false
def TryPost (CT CF : Addr) (H : Hp) (t l : Addr) (xs ds cs : List Addr) (T' : Tk) (s : Option Tk) (b : Bool) (Q : VK) : Prop :=
  ∀ (H' : Hp) (sv : V) (p : Addr) (xs' ds' cs' : List Addr), H' p = some (.tup [sv, .bl b]) → (∀ a o, a ≠ t → a ≠ l → a ∉ xs → a ∉ ds → H a = some o → H' a = some o) → TkRep H' CT CF t l xs' ds' cs' T' → Fresh H xs xs' → Fresh H ds ds' → Fresh H cs cs' → (s.isSome = true → xs' = xs ∧ ds' = ds ∧ cs' = cs) → StIn H H' CT CF s sv → Q (.ref p) H'
def spTryH (CT CF CK : Addr) : Sp := fun vs H Q _ => ∃ (t l bk rd : Addr) (xs ds cs : List Addr) (T : Tk) (f : Fr) (fs : List Fr) (Ws : List Wk) (R : List (List Int × Rz)) (N : Nat), vs = [.ref t, .ref bk, .ref rd] ∧ TkRep H CT CF t l xs ds cs T ∧ T.frs = f :: fs ∧ TkOk Ws N T ∧ N < 1000000 ∧ BkIn H CK bk Ws ∧ WksOk Ws ∧ ResAt H rd R ∧ Rdy R f ∧
  TryPost CT CF H t l xs ds cs (tryRow Ws R T).1 (tryRow Ws R T).2 (begunB Ws R T) Q
theorem rest_keep {H H' : Hp} {CT CF t l x d c dt dx : Addr} {xr dr cr : List Addr} {fs : List Fr} {T : TkSt} {F : FrSt} {us : List V} {kvs : List (Key × V)} (ht : H t = some (.ins CT dt (tkF T))) (hl : H l = some (.lst us)) (hx : H x = some (.ins CF dx (frF F))) (hd : H d = some (.dK kvs)) (h : FrsRep H CF xr dr cr fs)
    (ndx : (x :: xr).Nodup) (ndd : (d :: dr).Nodup) (lc : l ∉ c :: cr) (tu : Tups H H') (kp : ∀ b o, b ≠ t → b ≠ l → b ≠ x → b ≠ d → H b = some o → H' b = some o) : FrsRep H' CF xr dr cr fs := by
  obtain ⟨i1, i2, i3⟩ := h.ins
  refine h.keep tu (fun a ha o e => ?_) (fun a ha o e => ?_) (fun a ha o e => ?_)
  · obtain ⟨da, Fa, k⟩ := i1 a ha
    exact kp a o (fun z => by rw [z, ht] at k; exact ne_tf (Option.some.inj k)) (fun z => by rw [z, hl] at k; cases k) (fun z => (List.nodup_cons.mp ndx).1 (z ▸ ha)) (fun z => by rw [z, hd] at k; cases k) e
  · obtain ⟨ka, k⟩ := i2 a ha
    exact kp a o (fun z => by rw [z, ht] at k; cases k) (fun z => by rw [z, hl] at k; cases k) (fun z => by rw [z, hx] at k; cases k) (fun z => (List.nodup_cons.mp ndd).1 (z ▸ ha)) e
  · obtain ⟨ka, k⟩ := i3 a ha
    exact kp a o (fun z => by rw [z, ht] at k; cases k) (fun z => lc (z ▸ List.mem_cons_of_mem _ ha)) (fun z => by rw [z, hx] at k; cases k) (fun z => by rw [z, hd] at k; cases k) e
theorem inV_go {w : Bool} : inV (V.str (goW w)) [V.str "go", .str "call"] = true := by cases w <;> decide +kernel
end SH

set_option Elab.async false
set_option linter.all false
set_option maxRecDepth 100000
namespace SH
open PySem L2
section
variable {P : Program} {w : World} {K : PySem.W.Frag} {mg : Str → Option Value} {base : Heap}
theorem noS {p : Prop} (h : (none : Option Tk).isSome = true) : p := by cases h
/-- a failure ends the task -/
theorem brk_fail {CB CT CF t l dt pp : Addr} {xs ds cs : List Addr} {T : Tk} {rv : V} {us : List V} {H H1 : Hp} {Q : VK} {n : Int} (ht : H t = some (.ins CT dt (tkF ⟨pp, l, T.bg, T.gs, T.st, rv⟩))) (hpp : H pp = some (.tup (T.path.map V.int))) (hl : H l = some (.lst us)) (hn : nOk n) (s1 : Same H H1)
    (post : TryPost CT CF H t l xs ds cs { T with frs := [], res := some (.fails n) } none false Q) : Brk CB H1 (Failed CB CT t dt ⟨pp, l, T.bg, T.gs, T.st, rv⟩ Q) n := by
  intro y hy
  have s2 := s1.trans (same_new hy (.xd [("number", .int n)]))
  refine ⟨y, n, us, rfl, rfl, upd_same, s2 _ _ ht, s2 _ _ hl, fun r p H2 nr hr hl2 ht2 hp2 kp => ?_⟩
  have tu : Tups H H2 := fun a vs e => kp _ _ (fun z => by rw [z, ht] at e; cases e) (fun z => by rw [z, hl] at e; cases e) (s2 _ _ e)
  refine post H2 .non p [] [] [] hp2 (fun a o na nl _ _ e => kp a o na nl (s2 _ _ e)) ⟨⟨dt, pp, .ref r, ht2, tu _ _ hpp, hn, r, rfl, hr⟩, hl2, trivial, .nil, .nil, ?_⟩ (fun a h => ?_) (fun a h => ?_) (fun a h => ?_) noS rfl
  · exact fun h => by cases h
  all_goals cases h
theorem wt_same {H H' : Hp} (h : Tups H H') {x : Wt} {v : V} (e : WtIn H x v) : WtIn H' x v := e.tups h
/-- the frame on top has named something, and gone on -/
theorem fr_named {H H' : Hp} {CF x d c dx : Addr} {f : Fr} {q' : Nat} {rows : List V} {kvs : List (Key × V)} {nm : Str} {y : Wt} {u : V} {ks : List Rs} (hc : H' c = some (.lst rows)) (hC : CrsIn H (wcr f.W.rows) rows) (hE : EnvIn H d f.env) (hd : H d = some (.dK kvs)) (lk : kvs.length ≤ f.sz) (tu : Tups H H') (yo : y.ok) (hu : WtIn H' y u)
    (hx2 : H' x = some (.ins CF dx (frF ⟨c, d, f.W.room, f.dp, f.nr, (q' : Int)⟩))) (hd2 : H' d = some (.dK (putK kvs (Sum.inr nm) u))) (hrow : RowIs (wcr f.W.rows) q' (nxt ks)) : FrRep H' CF x d c (f.named nm y ks) :=
  ⟨dx, q', rows, _, hx2, hc, hC.tups tu, hrow, hE.put hd yo tu hd2 hu, hd2, Nat.le_trans (length_putK _ _ _) (Nat.succ_le_succ lk)⟩
theorem do_ok {Ws : List Wk} {R : List (List Int × Rz)} {T : Tk} {f : Fr} {fs : List Fr} {r : Tk × Option Tk} (h : T.frs = f :: fs) (e : doRow Ws R T f fs (nxt f.ks) = .ok r) : tryRow Ws R T = r ∧ begunB Ws R T = (match (nxt f.ks).1 with | .go _ _ _ _ => true | _ => false) := by
  unfold tryRow begunB
  rw [h]
  simp only [e]
  exact ⟨trivial, by first | rfl | trivial⟩
theorem do_err {Ws : List Wk} {R : List (List Int × Rz)} {T : Tk} {f : Fr} {fs : List Fr} {n : Int} (h : T.frs = f :: fs) (e : doRow Ws R T f fs (nxt f.ks) = .error n) : tryRow Ws R T = ({ T with frs := [], res := some (.fails n) }, none) ∧ begunB Ws R T = false := by
  unfold tryRow begunB
  rw [h]
  simp only [e]
  exact ⟨trivial, trivial⟩
theorem nd1 (a : Addr) : [a].Nodup := List.nodup_cons.mpr ⟨fun h => (by cases h), .nil⟩
theorem crIn_tup {H : Hp} {y C d : Addr} {fs : List (Str × V)} (h : H y = some (.ins C d fs)) : ∀ {c : Cr}, CrIn H c (.ref y) → False
  | .put _ _, ⟨a, u, e, k, t⟩ => by cases e; rw [h] at k; cases k
  | .go _ _ _ _, ⟨a, p, ws, e, k, kp, t⟩ => by cases e; rw [h] at k; cases k
  | .wait _ _ _, ⟨a, u, e, k, t⟩ => by cases e; rw [h] at k; cases k
  | .give _ _, ⟨a, u, e, k, t⟩ => by cases e; rw [h] at k; cases k
  | .iff _ _, ⟨a, u, e, k, t⟩ => by cases e; rw [h] at k; cases k
  | .jump _, ⟨a, e, k⟩ => by cases e; rw [h] at k; cases k
theorem try_high {CB CT CF CK : Addr} (vs : List V) (H : Hp) (Q : VK) (E : XK) (h : spTryH CT CF CK vs H Q E) : spTryRow CB CT CF (spStart CB CT CF CK) (spCallW CB CT CF CK) (spWaitW CB CF) vs H Q E := by
  obtain ⟨t, l, bk, rd, xs, ds, cs, T, f, fs, Ws, R, N, rfl, ⟨⟨dt, pp, rv, ht, hpp, hres⟩, hl, hfr, ndx, ndd, lc⟩, efr, ok, hN, hB, wok, hR, rdy, post⟩ := h
  have hfr0 := hfr
  rw [efr] at hfr
  obtain ⟨x, xr, d, dr, c, cr, rfl, rfl, rfl, ⟨dx, q0, rows, kvs, hx, hc, hC, hrow, hE, hd, lk⟩, hrest⟩ := hfr.cons
  have okf := ok.each f (by rw [efr]; exact List.mem_cons_self)
  have szf := ok.sz f (by rw [efr]; exact List.mem_cons_self)
  obtain ⟨rg, ksg⟩ := nxt_good okf.good
  have hl' : H l = some (.lst (xr.reverse.map V.ref ++ [.ref x])) := by rw [hl, List.reverse_cons, List.map_append]; rfl
  have ntx : t ≠ x := fun e => by rw [← e, ht] at hx; exact ne_tf (Option.some.inj hx)
  have ntl : t ≠ l := fun e => by rw [← e, ht] at hl; cases hl
  have ntd : t ≠ d := fun e => by rw [← e, ht] at hd; cases hd
  have nxl : x ≠ l := fun e => by rw [← e, hx] at hl; cases hl
  have nxd : x ≠ d := fun e => by rw [← e, hx] at hd; cases hd
  have ndl : d ≠ l := fun e => by rw [← e, hd] at hl; cases hl
  have ncx : c ≠ x := fun e => by rw [e, hx] at hc; cases hc
  have ncd : c ≠ d := fun e => by rw [e, hd] at hc; cases hc
  have nct : c ≠ t := fun e => by rw [e, ht] at hc; cases hc
  have ncl : c ≠ l := fun e => lc (e ▸ List.mem_cons_self)
  have oks : ∀ nm x, f.env nm = some x → x.ok := hE.oks
  -- the task behind a name put
  have naming : ∀ (nm : Str) (y : Wt) (u : V) (ks : List Rs) (q' : Nat), y.ok → WtIn H y u → RowIs (wcr f.W.rows) q' (nxt ks) → TryPost CT CF H t l (x :: xr) (d :: dr) (c :: cr) { T with frs := f.named nm y ks :: fs } none false Q →
      ∀ p H2, Same (upd (upd H d (.dK (putK kvs (Sum.inr nm) u))) x (.ins CF dx (frF ⟨c, d, f.W.room, f.dp, f.nr, (q' : Int)⟩))) H2 → H2 p = some (.tup [.non, .bl false]) → Q (.ref p) H2 := by
    intro nm y u ks q' yo hu hrow' post p H2 s2 hp2
    have kp : ∀ b o, b ≠ x → b ≠ d → H b = some o → H2 b = some o := fun b o n1 n2 e => s2 _ _ (by rw [upd_ne n1, upd_ne n2]; exact e)
    have tu : Tups H H2 := fun a vs e => kp _ _ (fun z => by rw [z, hx] at e; cases e) (fun z => by rw [z, hd] at e; cases e) e
    have hx2 := s2 _ _ upd_same
    have hd2 : H2 d = some (.dK (putK kvs (Sum.inr nm) u)) := s2 _ _ (by rw [upd_ne (Ne.symm nxd)]; exact upd_same)
    refine post H2 .non p (x :: xr) (d :: dr) (c :: cr) hp2 (fun a o n1 n2 n3 n4 e => kp a o (fun z => n3 (z ▸ List.mem_cons_self)) (fun z => n4 (z ▸ List.mem_cons_self)) e) ⟨⟨dt, pp, rv, kp _ _ ntx ntd ht, tu _ _ hpp, hres.tups tu⟩, kp _ _ (Ne.symm nxl) (Ne.symm ndl) hl, ⟨?_, ?_⟩, ndx, ndd, lc⟩ Fresh.rfl Fresh.rfl Fresh.rfl noS rfl
    · exact fr_named (kp _ _ ncx ncd hc) hC hE hd lk tu yo (hu.tups tu) hx2 hd2 hrow'
    · exact rest_keep ht hl hx hd hrest ndx ndd lc tu (fun b o _ _ n3 n4 e => kp b o n3 n4 e)
  cases hk : nxt f.ks with
  | mk rw_ ks =>
  rw [hk] at hrow rg ksg
  cases rw_ with
  | put nm e =>
    obtain ⟨hq, hcont⟩ := hrow
    obtain ⟨v, hv, a, u, rfl, ha, hT⟩ := hC.at_ hq
    obtain ⟨n, q', j, hrow'⟩ := cont_next hcont
    refine ⟨t, dt, x, dx, a, ⟨pp, l, T.bg, T.gs, T.st, rv⟩, ⟨c, d, f.W.room, f.dp, f.nr, (q0 : Int)⟩, _, rows, _, "put", .ref bk, .ref rd, rfl, ht, hl', hx, hc, atI_nat hv, ha, ?_⟩
    refine .inr (.inr (.inr (.inr (.inr (.inr ⟨by decide, nm, e, u, f.env, rfl, hT, rg, hE, ?_⟩)))))
    cases h1 : e.ev f.env with
    | error n =>
      obtain ⟨e1, e2⟩ := do_err (n := n) efr (by rw [hk]; show (e.ev f.env).bind _ = _; rw [h1]; rfl)
      rw [e1, e2] at post
      exact brk_fail ht hpp hl (Ex.ev_err h1) (fun _ _ e => e) post
    | ok y =>
      obtain ⟨e1, e2⟩ := do_ok (r := ({ T with frs := f.named nm y ks :: fs }, none)) efr (by rw [hk]; show (e.ev f.env).bind _ = _; rw [h1]; rfl)
      rw [hk] at e2
      rw [e1, e2] at post
      intro u' hu'
      refine ⟨x, dx, _, rows, kvs, nm, u', n, (q' : Int), rfl, hx, hc, hd, by omega, jmp_of hC j, ?_⟩
      exact naming nm y u' ks q' (Ex.ev_ok oks 6 e y rg h1) hu' hrow' post
  | wait nm y0 oe =>
    obtain ⟨hq, hcont⟩ := hrow
    obtain ⟨v, hv, a, u, rfl, ha, hT⟩ := hC.at_ hq
    obtain ⟨n, q', j, hrow'⟩ := cont_next hcont
    have rdy' := rdy nm y0 oe ks hk
    obtain ⟨wo1, wo2⟩ := waitV_out hR.ok oks rg rdy'
    refine ⟨t, dt, x, dx, a, ⟨pp, l, T.bg, T.gs, T.st, rv⟩, ⟨c, d, f.W.room, f.dp, f.nr, (q0 : Int)⟩, _, rows, _, "wait", .ref bk, .ref rd, rfl, ht, hl', hx, hc, atI_nat hv, ha, ?_⟩
    refine .inr (.inr (.inr (.inr (.inr (.inl ⟨rfl, nm, _, rfl, ?_⟩)))))
    refine ⟨a, x, rd, ⟨c, d, f.W.room, f.dp, f.nr, (q0 : Int)⟩, .str nm, u, y0, "wait", oe, f.env, R, rfl, ⟨dx, hx⟩, ha, hT, rg, hE, hR, rdy', ?_⟩
    cases h1 : waitV R f.env y0 oe with
    | error n =>
      obtain ⟨e1, e2⟩ := do_err (n := n) efr (by rw [hk]; show (waitV R f.env y0 oe).bind _ = _; rw [h1]; rfl)
      rw [e1, e2] at post
      exact brk_fail ht hpp hl (wo1 _ h1) (fun _ _ e => e) post
    | ok y =>
      obtain ⟨e1, e2⟩ := do_ok (r := ({ T with frs := f.named nm y ks :: fs }, none)) efr (by rw [hk]; show (waitV R f.env y0 oe).bind _ = _; rw [h1]; rfl)
      rw [hk] at e2
      rw [e1, e2] at post
      intro u' hu'
      refine ⟨x, dx, _, rows, kvs, nm, u', n, (q' : Int), rfl, hx, hc, hd, by omega, jmp_of hC j, ?_⟩
      exact naming nm y u' ks q' (wo2 _ h1) hu' hrow' post
  | iff e A B =>
    obtain ⟨pj, hq, hcA, hcB⟩ := hrow
    obtain ⟨v, hv, a, u, rfl, ha, hT⟩ := hC.at_ hq
    refine ⟨t, dt, x, dx, a, ⟨pp, l, T.bg, T.gs, T.st, rv⟩, ⟨c, d, f.W.room, f.dp, f.nr, (q0 : Int)⟩, _, rows, _, "if", .ref bk, .ref rd, rfl, ht, hl', hx, hc, atI_nat hv, ha, ?_⟩
    refine .inr (.inr (.inr (.inr (.inl ⟨rfl, e, u, f.env, (pj : Int), rfl, hT, rg.1, hE, ?_⟩))))
    cases h1 : e.evN f.env with
    | error n =>
      obtain ⟨e1, e2⟩ := do_err (n := n) efr (by rw [hk]; show (e.evN f.env).bind _ = _; rw [h1]; rfl)
      rw [e1, e2] at post
      exact brk_fail ht hpp hl (Ex.evN_err h1) (fun _ _ e => e) post
    | ok i =>
      obtain ⟨e1, e2⟩ := do_ok (r := ({ T with frs := { f with ks := (if i = 0 then B else A) :: ks } :: fs }, none)) efr (by rw [hk]; show (e.evN f.env).bind _ = _; rw [h1]; rfl)
      rw [hk] at e2
      rw [e1, e2] at post
      have go : ∃ (n q' : Nat), Jmp H rows n (if i = 0 then (pj : Int) else ((q0 : Int) + 1)) (q' : Int) ∧ RowIs (wcr f.W.rows) q' (nxt ((if i = 0 then B else A) :: ks)) := by
        by_cases ci : i = 0
        · rw [if_pos ci, if_pos ci]
          obtain ⟨n, q', j, r⟩ := cont_next hcB
          exact ⟨n, q', jmp_of hC j, r⟩
        · rw [if_neg ci, if_neg ci]
          obtain ⟨n, q', j, r⟩ := cont_next hcA
          exact ⟨n, q', jmp_of hC j, r⟩
      obtain ⟨n, q', hJ, hrow'⟩ := go
      refine ⟨n, (q' : Int), hJ, ?_⟩
      intro p H2 s2 hp2
      have kp : ∀ b o, b ≠ x → H b = some o → H2 b = some o := fun b o n1 e => s2 _ _ (by rw [upd_ne n1]; exact e)
      have tu : Tups H H2 := fun a vs e => kp _ _ (fun z => by rw [z, hx] at e; cases e) e
      have hx2 := s2 _ _ upd_same
      refine post H2 .non p (x :: xr) (d :: dr) (c :: cr) hp2 (fun a o n1 n2 n3 n4 e => kp a o (fun z => n3 (z ▸ List.mem_cons_self)) e) ⟨⟨dt, pp, rv, kp _ _ ntx ht, tu _ _ hpp, hres.tups tu⟩, kp _ _ (Ne.symm nxl) hl, ⟨⟨dx, q', rows, kvs, hx2, kp _ _ ncx hc, hC.tups tu, hrow', hE.keep tu (fun o e => kp _ _ (Ne.symm nxd) e), kp _ _ (Ne.symm nxd) hd, lk⟩, ?_⟩, ndx, ndd, lc⟩ Fresh.rfl Fresh.rfl Fresh.rfl noS rfl
      exact rest_keep ht hl hx hd hrest ndx ndd lc tu (fun b o _ _ n3 _ e => kp b o n3 e)
  | give wb e =>
    obtain ⟨v, hv, a, u, rfl, ha, hT⟩ := hC.at_ hrow
    refine ⟨t, dt, x, dx, a, ⟨pp, l, T.bg, T.gs, T.st, rv⟩, ⟨c, d, f.W.room, f.dp, f.nr, (q0 : Int)⟩, _, rows, _, giveW wb, .ref bk, .ref rd, rfl, ht, hl', hx, hc, atI_nat hv, ha, ?_⟩
    cases wb with
    | true =>
      refine .inr (.inr (.inr (.inl ⟨rfl, e, u, f.env, rfl, hT, rg, hE, ?_⟩)))
      cases h1 : e.evN f.env with
      | error n =>
        obtain ⟨e1, e2⟩ := do_err (n := n) efr (by rw [hk]; show (e.evN f.env).bind _ = _; rw [h1]; rfl)
        rw [e1, e2] at post
        exact brk_fail ht hpp hl (Ex.evN_err h1) (fun _ _ e => e) post
      | ok i =>
        obtain ⟨e1, e2⟩ := do_err (n := i) efr (by rw [hk]; show (e.evN f.env).bind _ = _; rw [h1]; rfl)
        rw [e1, e2] at post
        exact brk_fail ht hpp hl (Ex.evN_ok oks rg h1) (fun _ _ e => e) post
    | false =>
      refine .inr (.inr (.inl ⟨rfl, e, u, f.env, rfl, hT, rg, hE, ?_⟩))
      cases h1 : e.ev f.env with
      | error n =>
        obtain ⟨e1, e2⟩ := do_err (n := n) efr (by rw [hk]; show (e.ev f.env).bind _ = _; rw [h1]; rfl)
        rw [e1, e2] at post
        exact brk_fail ht hpp hl (Ex.ev_err h1) (fun _ _ e => e) post
      | ok y =>
        obtain ⟨e1, e2⟩ := do_ok (r := (gave T y fs, none)) efr (by rw [hk]; show (e.ev f.env).bind _ = _; rw [h1]; rfl)
        rw [hk] at e2
        rw [e1, e2] at post
        have yo := Ex.ev_ok oks 6 e y rg h1
        intro u' hu'
        refine ⟨t, dt, ⟨pp, l, T.bg, T.gs, T.st, rv⟩, u', rfl, ht, ?_⟩
        cases fs with
        | nil =>
          obtain ⟨rfl, rfl, rfl⟩ := hrest.nil
          refine .inl ⟨.ref x, hl', fun r H1 nr hr hl1 ht1 kp1 => ?_⟩
          intro p H2 s2 hp2
          have kp : ∀ b o, b ≠ t → b ≠ l → H b = some o → H2 b = some o := fun b o n1 n2 e => s2 _ _ (kp1 b o n1 n2 e)
          have tu : Tups H H2 := fun a vs e => kp _ _ (fun z => by rw [z, ht] at e; cases e) (fun z => by rw [z, hl] at e; cases e) e
          refine post H2 .non p [] [] [] hp2 (fun a o n1 n2 _ _ e => kp a o n1 n2 e) ⟨⟨dt, pp, .ref r, s2 _ _ ht1, tu _ _ hpp, yo, r, u', rfl, s2 _ _ hr, hu'.tups tu⟩, s2 _ _ hl1, trivial, .nil, .nil, ?_⟩ (fun a h => ?_) (fun a h => ?_) (fun a h => ?_) noS rfl
          · exact fun h => by cases h
          all_goals cases h
        | cons c0 fs0 =>
          obtain ⟨nm, g, es, ks0, hcall⟩ := ok.tail c0 (by rw [efr]; exact List.mem_cons_self)
          obtain ⟨yx, yr, yd, ydr, yc, ycr, rfl, rfl, rfl, ⟨dy, q1, rowsy, kvy, hy, hyc, hyC, hyrow, hyE, hyd, lky⟩, hyrest⟩ := hrest.cons
          rw [hcall] at hyrow
          obtain ⟨hyq, hycont⟩ := hyrow
          obtain ⟨v2, hv2, a2, p2, ws2, rfl, ha2, _, _⟩ := hyC.at_ hyq
          obtain ⟨n, q', j, hrow'⟩ := cont_next hycont
          have szc := ok.sz c0 (by rw [efr]; exact List.mem_cons_of_mem _ List.mem_cons_self)
          have nd1 := List.nodup_cons.mp ndx
          have nd2 := List.nodup_cons.mp ndd
          have lc2 : l ∉ yc :: ycr := fun z => lc (List.mem_cons_of_mem _ z)
          have hl2 : H l = some (.lst ((yr.reverse.map V.ref ++ [.ref yx]) ++ [.ref x])) := by rw [hl', List.reverse_cons, List.map_append]; rfl
          have nyl : yx ≠ l := fun e => by rw [← e, hy] at hl; cases hl
          have nydl : yd ≠ l := fun e => by rw [← e, hyd] at hl; cases hl
          have nyy : yx ≠ yd := fun e => by rw [← e, hy] at hyd; cases hyd
          have nty : t ≠ yx := fun e => by rw [← e, ht] at hy; exact ne_tf (Option.some.inj hy)
          have ntyd : t ≠ yd := fun e => by rw [← e, ht] at hyd; cases hyd
          have ncyl : yc ≠ l := fun e => lc2 (e ▸ List.mem_cons_self)
          have ncyx : yc ≠ yx := fun e => by rw [e, hy] at hyc; cases hyc
          have ncyd : yc ≠ yd := fun e => by rw [e, hyd] at hyc; cases hyc
          refine .inr ⟨.ref x, yr.reverse.map V.ref, yx, dy, a2, ⟨yc, yd, c0.W.room, c0.dp, c0.nr, (q1 : Int)⟩, rowsy, _, kvy, goW true, nm, n, (q' : Int), hl2, hy, hyc, ncyl, atI_nat hv2, ha2, hyd, by omega, jmp_of hyC j, ?_⟩
          intro p H2 s2 hp2
          have kp : ∀ b o, b ≠ yx → b ≠ yd → b ≠ l → H b = some o → H2 b = some o := fun b o n1 n2 n3 e => s2 _ _ (by rw [upd_ne n1, upd_ne n2, upd_ne n3]; exact e)
          have tu : Tups H H2 := fun a vs e => kp _ _ (fun z => by rw [z, hy] at e; cases e) (fun z => by rw [z, hyd] at e; cases e) (fun z => by rw [z, hl] at e; cases e) e
          have hx2 := s2 _ _ upd_same
          have hd2 : H2 yd = some (.dK (putK kvy (Sum.inr nm) u')) := s2 _ _ (by rw [upd_ne (Ne.symm nyy)]; exact upd_same)
          have hl3 : H2 l = some (.lst (yr.reverse.map V.ref ++ [.ref yx])) := s2 _ _ (by rw [upd_ne (Ne.symm nyl), upd_ne (Ne.symm nydl)]; exact upd_same)
          have eg : gave T y (c0 :: fs0) = { T with frs := c0.named nm y ks0 :: fs0 } := by
            simp only [gave, hcall]
          rw [eg] at post
          refine post H2 .non p (yx :: yr) (yd :: ydr) (yc :: ycr) hp2 (fun a o n1 n2 n3 n4 e => kp a o (fun z => n3 (z ▸ List.mem_cons_of_mem _ List.mem_cons_self)) (fun z => n4 (z ▸ List.mem_cons_of_mem _ List.mem_cons_self)) n2 e) ⟨⟨dt, pp, rv, kp _ _ nty ntyd ntl ht, tu _ _ hpp, hres.tups tu⟩, ?_, ⟨?_, ?_⟩, nd1.2, nd2.2, lc2⟩ (fun a h => .inl (List.mem_cons_of_mem _ h)) (fun a h => .inl (List.mem_cons_of_mem _ h)) (fun a h => .inl (List.mem_cons_of_mem _ h)) noS rfl
          · rw [hl3, List.reverse_cons, List.map_append]; rfl
          · exact fr_named (kp _ _ ncyx ncyd ncyl hyc) hyC hyE hyd lky tu yo (hu'.tups tu) hx2 hd2 hrow'
          · exact rest_keep ht hl hy hyd hyrest nd1.2 nd2.2 lc2 tu (fun b o _ n2 n3 n4 e => kp b o n3 n4 n2 e)
  | go wb nm g es =>
    obtain ⟨hq, hcont⟩ := hrow
    obtain ⟨v, hv, a, p0, ws, rfl, ha, hp0, hT⟩ := hC.at_ hq
    obtain ⟨⟨W, hW, eW, lW⟩, le4, low⟩ := rg
    have wo := wok.each W hW
    have hw : workOf Ws g = W := by rw [← eW]; exact workOf_eq wok.nd hW
    have dpk := ok.dps
    rw [efr] at dpk
    obtain ⟨dp1, dp2, _⟩ := dpk
    refine ⟨t, dt, x, dx, a, ⟨pp, l, T.bg, T.gs, T.st, rv⟩, ⟨c, d, f.W.room, f.dp, f.nr, (q0 : Int)⟩, _, rows, _, goW wb, .ref bk, .ref rd, rfl, ht, hl', hx, hc, atI_nat hv, ha, ?_⟩
    have mkIn : ∀ {H2 : Hp} {y dd cc dy : Addr} {dp' nr : Int} {rows' us : List V} {vals : List Wt}, H2 y = some (.ins CF dy (frF ⟨cc, dd, W.room, dp', nr, 0⟩)) → H2 cc = some (.lst rows') → CrsIn H2 (wcr W.rows) rows' → H2 dd = some (.dK ((W.names.zip us).map fun p => (Sum.inr p.1, p.2))) → WtsIn H2 vals us → evs f.env es = .ok vals → FrRep H2 CF y dd cc (mkFr W vals dp' nr) := by
      intro H2 y dd cc dy dp' nr rows' us vals k1 k2 k3 k4 k5 k6
      refine ⟨dy, 0, rows', _, k1, k2, k3, row0 _, ⟨_, k4, envOf_at k5 (evs_ok oks low k6)⟩, k4, ?_⟩
      rw [List.length_map, List.length_zip]
      exact Nat.le_trans (Nat.min_le_left _ _) wo.few
    cases wb with
    | false =>
      obtain ⟨n, q', j, hrow'⟩ := cont_next hcont
      refine .inl ⟨rfl, ?_⟩
      refine ⟨t, dt, x, dx, a, p0, bk, _, _, _, rows, _, nm, g, ws, es, f.env, Ws, W, kvs, T.path, n, (q' : Int), rfl, ht, hpp, by omega, hl', hx, ha, hp0, hT, low, le4, hE, hd, by omega, hc, jmp_of hC j, hB, wok.nd, hW, eW, wo, lW, ?_⟩
      show match handV f.env f.dp es with | .error n => _ | .ok xs => _
      cases h1 : handV f.env f.dp es with
      | error n =>
        obtain ⟨e1, e2⟩ := do_err (n := n) efr (by rw [hk]; show (handV f.env f.dp es).bind _ = _; rw [h1]; rfl)
        rw [e1, e2] at post
        exact fun H' s' => brk_fail ht hpp hl (handV_err h1) s' post
      | ok vals =>
        obtain ⟨e1, e2⟩ := do_ok (r := ({ T with gs := T.gs + 1, frs := f.named nm (.fut (T.path ++ [T.gs])) ks :: fs }, some (mkTk (T.path ++ [T.gs]) (mkFr W vals (f.dp + 1) 0)))) efr (by rw [hk]; show (handV f.env f.dp es).bind _ = _; rw [h1, hw]; rfl)
        rw [hk] at e2
        rw [e1, e2] at post
        have ev := (handV_evs h1).1
        intro t2 dt2 l2 y dd cc dy pa2 fa rows' us H1 kp1 m1 m2 m3 m4 m5 g1 g2 g3 g4 g5 g6 g7 g8 g9 g10 g11 g12
        intro p H2 s2 hp2
        have kp : ∀ b o, b ≠ t → b ≠ x → b ≠ d → H b = some o → H2 b = some o := fun b o n1 n2 n3 e => s2 _ _ (kp1 b o n1 n2 n3 e)
        have tu : Tups H H2 := fun a vs e => kp _ _ (fun z => by rw [z, ht] at e; cases e) (fun z => by rw [z, hx] at e; cases e) (fun z => by rw [z, hd] at e; cases e) e
        have tu2 := Same.tups s2
        refine post H2 (.ref t2) p (x :: xr) (d :: dr) (c :: cr) hp2 (fun a o n1 n2 n3 n4 e => kp a o n1 (fun z => n3 (z ▸ List.mem_cons_self)) (fun z => n4 (z ▸ List.mem_cons_self)) e) ⟨⟨dt, pp, rv, s2 _ _ g1, tu _ _ hpp, hres.tups tu⟩, kp _ _ (Ne.symm ntl) (Ne.symm nxl) (Ne.symm ndl) hl, ⟨?_, ?_⟩, ndx, ndd, lc⟩ Fresh.rfl Fresh.rfl Fresh.rfl (fun _ => ⟨rfl, rfl, rfl⟩) ?_
        · exact fr_named (kp _ _ nct ncx ncd hc) hC hE hd lk tu trivial ⟨fa, pa2, rfl, s2 _ _ g4, s2 _ _ g5⟩ (s2 _ _ g2) (s2 _ _ g3) hrow'
        · exact rest_keep ht hl hx hd hrest ndx ndd lc tu (fun b o n1 _ n3 n4 e => kp b o n1 n3 n4 e)
        · refine ⟨t2, l2, y, dd, cc, rfl, ⟨⟨dt2, pa2, .non, s2 _ _ g6, s2 _ _ g5, rfl⟩, s2 _ _ g7, ⟨mkIn (s2 _ _ g8) (s2 _ _ g9) (g10.tups tu2) (s2 _ _ g11) (g12.tups tu2) ev, trivial⟩, nd1 _, nd1 _, fun z => ?_⟩, m1, m2, m3, m4, m5⟩
          have z := List.mem_singleton.mp z
          rw [← z, g7] at g9
          have g10' := g10
          cases g9
          have lw := g10.len
          obtain ⟨v0, r0, er, hin, _⟩ : ∃ v r, [V.ref y] = v :: r ∧ (∃ c0, CrIn H1 c0 v) ∧ True := by
            cases hw2 : wcr W.rows with
            | nil => rw [hw2] at lw; cases lw
            | cons c0 cs0 => rw [hw2] at g10; obtain ⟨v, r, e, h, _⟩ := g10; exact ⟨v, r, e, ⟨c0, h⟩, trivial⟩
          cases er
          obtain ⟨c0, hin⟩ := hin
          exact crIn_tup g8 hin
    | true =>
      refine .inr (.inl ⟨rfl, ?_⟩)
      refine ⟨t, dt, x, a, p0, bk, _, _, _, _, nm, g, ws, es, f.env, Ws, W, rfl, ht, hl', ?_, ⟨dx, hx⟩, ha, hp0, hT, low, le4, hE, hB, wok.nd, hW, eW, wo, lW, ?_⟩
      · rw [List.length_map, List.length_reverse, hrest.len]; omega
      show match handV f.env f.dp es with | .error n => _ | .ok xs => _
      cases h1 : handV f.env f.dp es with
      | error n =>
        obtain ⟨e1, e2⟩ := do_err (n := n) efr (by rw [hk]; show (handV f.env f.dp es).bind _ = _; rw [h1]; rfl)
        rw [e1, e2] at post
        exact fun H' s' => brk_fail ht hpp hl (handV_err h1) s' post
      | ok vals =>
        obtain ⟨e1, e2⟩ := do_ok (r := ({ T with bg := T.bg + 1, frs := mkFr W vals (f.dp + 1) T.bg :: f :: fs }, none)) efr (by rw [hk]; show (handV f.env f.dp es).bind _ = _; rw [h1, hw]; rfl)
        rw [hk] at e2
        rw [e1, e2] at post
        have ev := (handV_evs h1).1
        intro y dd cc dy rows' us H1 kp1 m3 m4 m5 g1 g2 g8 g9 g10 g11 g12
        intro p H2 s2 hp2
        have kp : ∀ b o, b ≠ t → b ≠ l → H b = some o → H2 b = some o := fun b o n1 n2 e => s2 _ _ (kp1 b o n1 n2 e)
        have tu : Tups H H2 := fun a vs e => kp _ _ (fun z => by rw [z, ht] at e; cases e) (fun z => by rw [z, hl] at e; cases e) e
        have tu2 := Same.tups s2
        obtain ⟨i1, i2, i3⟩ := hfr.ins
        refine post H2 .non p (y :: x :: xr) (dd :: d :: dr) (cc :: c :: cr) hp2 (fun a o n1 n2 n3 n4 e => kp a o n1 n2 e) ⟨⟨dt, pp, rv, s2 _ _ g1, tu _ _ hpp, hres.tups tu⟩, ?_, ⟨?_, ?_⟩, ?_, ?_, ?_⟩ ?_ ?_ ?_ noS rfl
        · rw [s2 _ _ g2, List.reverse_cons, List.reverse_cons, List.map_append, List.map_append]; rfl
        · exact mkIn (s2 _ _ g8) (s2 _ _ g9) (g10.tups tu2) (s2 _ _ g11) (g12.tups tu2) ev
        · refine hfr.keep tu (fun a ha o e => ?_) (fun a ha o e => ?_) (fun a ha o e => ?_)
          · obtain ⟨da, Fa, k⟩ := i1 a ha
            exact kp a o (fun z => by rw [z, ht] at k; exact ne_tf (Option.some.inj k)) (fun z => by rw [z, hl] at k; cases k) e
          · obtain ⟨ka, k⟩ := i2 a ha
            exact kp a o (fun z => by rw [z, ht] at k; cases k) (fun z => by rw [z, hl] at k; cases k) e
          · obtain ⟨ka, k⟩ := i3 a ha
            exact kp a o (fun z => by rw [z, ht] at k; cases k) (fun z => lc (z ▸ ha)) e
        · exact List.nodup_cons.mpr ⟨(fun z => by obtain ⟨da, Fa, k⟩ := i1 y z; rw [m3] at k; cases k), ndx⟩
        · exact List.nodup_cons.mpr ⟨(fun z => by obtain ⟨ka, k⟩ := i2 dd z; rw [m4] at k; cases k), ndd⟩
        · exact fun z => (List.mem_cons.mp z).elim (fun e => by rw [← e, hl] at m5; cases m5) lc
        · exact fun a ha => (List.mem_cons.mp ha).elim (fun e => .inr (e ▸ m3)) .inl
        · exact fun a ha => (List.mem_cons.mp ha).elim (fun e => .inr (e ▸ m4)) .inl
        · exact fun a ha => (List.mem_cons.mp ha).elim (fun e => .inr (e ▸ m5)) .inl
end
end SH

set_option Elab.async false
set_option linter.all false
set_option maxRecDepth 100000
namespace SH
open PySem L2
abbrev sStep : Stmt := topS 86
theorem scStep : FnScope ["task", "book", "results", "head", "room", "started", "begun", "change"] ["task", "book", "results"] (defScope sStep) := ⟨rfl, rfl, rfl, by decide +kernel, rfl, by decide +kernel, by decide +kernel⟩
/-! ### what a step tells of itself -/
structure Nd where
  (path : List Int) (st nr : Int) (wp sp : Option (List Int)) (bg : Bool) (ch : Int) (en : Bool)
def PthIn (H : Hp) (p : List Int) (v : V) : Prop := ∃ a, v = .ref a ∧ H a = some (.tup (p.map V.int))
def OptP (H : Hp) : Option (List Int) → V → Prop
  | none, v => v = .non
  | some p, v => PthIn H p v
theorem PthIn.tups {H H' : Hp} (h : Tups H H') {p : List Int} {v : V} : PthIn H p v → PthIn H' p v := fun ⟨a, e, k⟩ => ⟨a, e, h _ _ k⟩
theorem OptP.tups {H H' : Hp} (h : Tups H H') : ∀ {p : Option (List Int)} {v : V}, OptP H p v → OptP H' p v
  | none, _, e => e
  | some _, _, e => PthIn.tups h e
def NdIn (H : Hp) (n : Nd) (v : V) : Prop := ∃ a pv wv sv, v = .ref a ∧ H a = some (.tup [pv, .int n.st, .int n.nr, wv, sv, .bl n.bg, .int n.ch, .bl n.en]) ∧ PthIn H n.path pv ∧ OptP H n.wp wv ∧ OptP H n.sp sv
theorem NdIn.tups {H H' : Hp} (h : Tups H H') {n : Nd} {v : V} : NdIn H n v → NdIn H' n v := fun ⟨a, pv, wv, sv, e, k, p1, p2, p3⟩ => ⟨a, pv, wv, sv, e, h _ _ k, p1.tups h, p2.tups h, p3.tups h⟩
def roomT (T : Tk) : Int := (T.frs.map fun f => f.W.room).sum
def waitedP (f : Fr) : Option (List Int) :=
  match nxt f.ks with
  | (.wait _ y _, _) => match f.env y with
    | some (.fut p) => some p
    | _ => none
  | _ => none
def topNr (T : Tk) : Int := match T.frs with | [] => 0 | f :: _ => f.nr
def topWp (T : Tk) : Option (List Int) := match T.frs with | [] => none | f :: _ => waitedP f
def stepT (Ws : List Wk) (R : List (List Int × Rz)) (T : Tk) : Tk × Option Tk := ({ (tryRow Ws R T).1 with st := (tryRow Ws R T).1.st + 1 }, (tryRow Ws R T).2)
def nodeOf (Ws : List Wk) (R : List (List Int × Rz)) (T : Tk) : Nd :=
  match (tryRow Ws R T).2 with
  | none => ⟨T.path, T.st, topNr T, topWp T, none, begunB Ws R T, roomT (tryRow Ws R T).1 - roomT T, (tryRow Ws R T).1.res.isSome⟩
  | some S => ⟨T.path, T.st, topNr T, topWp T, some S.path, begunB Ws R T, roomT (tryRow Ws R T).1 - roomT T + roomT S, false⟩
theorem FrsRep.sts {H : Hp} {CF : Addr} : ∀ {xs ds cs : List Addr} {fs : List Fr}, FrsRep H CF xs ds cs fs → ∃ Fs : List FrSt, Fs.length = xs.length ∧ (∀ (i : Nat) (x : Addr), xs[i]? = some x → ∃ F : FrSt, Fs[i]? = some F ∧ FrAt H CF x F) ∧ (Fs.map FrSt.rm).sum = (fs.map fun f => f.W.room).sum
  | x :: xs, d :: ds, c :: cs, f :: fs, ⟨⟨dx, q, rows, kvs, a1, _⟩, r⟩ => by
    obtain ⟨Fs, l, g, s⟩ := FrsRep.sts r
    refine ⟨⟨c, d, f.W.room, f.dp, f.nr, (q : Int)⟩ :: Fs, by rw [List.length_cons, List.length_cons, l], fun i y e => ?_, ?_⟩
    · cases i with
      | zero => cases e; exact ⟨_, rfl, dx, a1⟩
      | succ i => exact g i y e
    · rw [List.map_cons, List.map_cons, List.sum_cons, List.sum_cons, s]
  | [], [], [], [], _ => ⟨[], rfl, (fun i x e => by cases i <;> cases e), rfl⟩
theorem sum_rev (l : List Int) : l.reverse.sum = l.sum := by
  induction l with
  | nil => rfl
  | cons a l ih => rw [List.reverse_cons, List.sum_append, ih, List.sum_cons, List.sum_cons, List.sum_nil]; omega
theorem FrsRep.rev {H : Hp} {CF : Addr} {xs ds cs : List Addr} {fs : List Fr} (h : FrsRep H CF xs ds cs fs) : ∃ Fs : List FrSt, FrsAt H CF xs.reverse Fs ∧ (Fs.map FrSt.rm).sum = (fs.map fun f => f.W.room).sum := by
  obtain ⟨Fs, l, g, s⟩ := h.sts
  refine ⟨Fs.reverse, ⟨by rw [List.length_reverse, List.length_reverse, l], fun i x e => ?_⟩, by rw [List.map_reverse, sum_rev]; exact s⟩
  have hi : i < xs.length := by have := (List.getElem?_eq_some_iff.mp e).1; rwa [List.length_reverse] at this
  rw [List.getElem?_reverse hi] at e
  obtain ⟨F, k, q⟩ := g _ x e
  exact ⟨F, by rw [List.getElem?_reverse (by omega), l]; exact k, q⟩
/-- the room that a task takes is told -/
theorem room_rep {H : Hp} {CT CF t l : Addr} {xs ds cs : List Addr} {T : Tk} {Q : VK} {E : XK} (r : TkRep H CT CF t l xs ds cs T) (few : T.frs.length ≤ 1000) (q : ∀ H', Same H H' → Q (.int (roomT T)) H') : spRoomOf CT CF [.ref t] H Q E := by
  obtain ⟨⟨dt, p, rv, a1, a2, a3⟩, b, c, _, _, _⟩ := r
  obtain ⟨Fs, h1, h2⟩ := c.rev
  exact ⟨t, _, xs.reverse, Fs, rfl, ⟨dt, a1⟩, b, h1, by rw [List.length_reverse, c.len]; exact few, fun H' s => by rw [h2]; exact q H' s⟩
theorem DpOk.few {k : Nat} : ∀ {fs : List Fr}, DpOk k fs → fs.length ≤ 30
  | [], _ => Nat.zero_le _
  | f :: fs, ⟨a, b, _⟩ => by rw [List.length_cons]; omega
theorem ResIn.tups {H H' : Hp} (h : Tups H H') : ∀ {R : List (List Int × Rz)} {kvs : List (List Key × V)}, ResIn H R kvs → ResIn H' R kvs
  | [], _, e => e
  | _ :: _, _, ⟨v, t, e, o, k, r⟩ => ⟨v, t, e, o, k.tups h, ResIn.tups h r⟩
theorem ResAt.keep {H H' : Hp} {d : Addr} {R : List (List Int × Rz)} (h : Tups H H') (k : ∀ o, H d = some o → H' d = some o) : ResAt H d R → ResAt H' d R
  | ⟨kvs, e, p⟩ => ⟨kvs, k _ e, p.tups h⟩
theorem row_word {H : Hp} {cd : List Cr} {rows : List V} {q : Nat} (hC : CrsIn H cd rows) : ∀ {r : Rw × List Rs}, RowIs cd q r → ∃ (a : Addr) (ts : List V), atI rows (q : Int) = some (.ref a) ∧ H a = some (.tup (.str (rwW r.1) :: ts)) ∧ ∀ x y oe, r.1 = .wait x y oe → ∃ u us, ts = u :: .str y :: us
  | (.put x e, ks), ⟨h, _⟩ => by
    obtain ⟨v, hv, a, u, rfl, ha, hT⟩ := hC.at_ h
    exact ⟨a, _, atI_nat hv, ha, fun x y oe z => by cases z⟩
  | (.go w x g es, ks), ⟨h, _⟩ => by
    obtain ⟨v, hv, a, p, ws, rfl, ha, _⟩ := hC.at_ h
    exact ⟨a, _, atI_nat hv, ha, fun x y oe z => by cases z⟩
  | (.wait x y oe, ks), ⟨h, _⟩ => by
    obtain ⟨v, hv, a, u, rfl, ha, hT⟩ := hC.at_ h
    exact ⟨a, _, atI_nat hv, ha, fun x y oe z => by cases z; exact ⟨_, _, rfl⟩⟩
  | (.give w e, ks), h => by
    obtain ⟨v, hv, a, u, rfl, ha, hT⟩ := hC.at_ h
    exact ⟨a, _, atI_nat hv, ha, fun x y oe z => by cases z⟩
  | (.iff e A B, ks), ⟨p, h, _⟩ => by
    obtain ⟨v, hv, a, u, rfl, ha, hT⟩ := hC.at_ h
    exact ⟨a, _, atI_nat hv, ha, fun x y oe z => by cases z⟩
theorem rwW_wait : ∀ {r : Rw}, rwW r = "wait" → ∃ x y oe, r = .wait x y oe
  | .put _ _, h => absurd (show ("put" : Str) = "wait" from h) (by decide)
  | .go false _ _ _, h => absurd (show ("go" : Str) = "wait" from h) (by decide)
  | .go true _ _ _, h => absurd (show ("call" : Str) = "wait" from h) (by decide)
  | .wait x y oe, _ => ⟨x, y, oe, rfl⟩
  | .give false _, h => absurd (show ("give" : Str) = "wait" from h) (by decide)
  | .give true _, h => absurd (show ("fail" : Str) = "wait" from h) (by decide)
  | .iff _ _ _, h => absurd (show ("if" : Str) = "wait" from h) (by decide)
/-- the path for which a task waits is told -/
theorem wait_rep {H : Hp} {CT CF t x d c l dt dx : Addr} {T : TkSt} {f : Fr} {q0 : Nat} {rows fs : List V} {Q : VK} {E : XK} (ht : H t = some (.ins CT dt (tkF T))) (hl : H T.l = some (.lst (fs ++ [.ref x]))) (hx : H x = some (.ins CF dx (frF ⟨c, d, f.W.room, f.dp, f.nr, (q0 : Int)⟩))) (hc : H c = some (.lst rows)) (hC : CrsIn H (wcr f.W.rows) rows) (hrow : RowIs (wcr f.W.rows) q0 (nxt f.ks)) (hE : EnvIn H d f.env)
    (q : ∀ wv, OptP H (waitedP f) wv → Q wv H) : spWaited CT CF [.ref t] H Q E := by
  obtain ⟨a, ts, hat, ha, hw⟩ := row_word hC hrow
  refine ⟨t, x, a, T, _, fs, rows, ts, _, rfl, ⟨dt, ht⟩, hl, ⟨dx, hx⟩, hc, hat, ha, ?_⟩
  by_cases z : rwW (nxt f.ks).1 = "wait"
  · refine .inr ⟨z, ?_⟩
    obtain ⟨x1, y, oe, e⟩ := rwW_wait z
    obtain ⟨u, us, rfl⟩ := hw x1 y oe e
    refine ⟨u, y, us, f.env, rfl, hE, ?_⟩
    have ew : waitedP f = match f.env y with | some (.fut p) => some p | _ => none := by
      unfold waitedP
      cases hk : nxt f.ks with
      | mk r ks =>
        rw [hk] at e
        have e : r = .wait x1 y oe := e
        subst e
        rfl
    rw [ew] at q
    cases he : f.env y with
    | none => rw [he] at q; exact q .non rfl
    | some w =>
      rw [he] at q
      cases w with
      | num i => exact q .non rfl
      | fut p => exact fun b hb => q (.ref b) ⟨b, rfl, hb⟩
  · refine .inl ⟨z, q .non ?_⟩
    have ew : waitedP f = none := by
      unfold waitedP
      cases hk : nxt f.ks with
      | mk r ks =>
        rw [hk] at z
        cases r with
        | wait x1 y oe => exact absurd rfl z
        | _ => rfl
    rw [ew]
    rfl
theorem try_few {Ws : List Wk} {R : List (List Int × Rz)} {T : Tk} {f : Fr} {fs : List Fr} (h : T.frs = f :: fs) (k : T.frs.length ≤ 30) : (tryRow Ws R T).1.frs.length ≤ 31 := by
  have k' : fs.length + 1 ≤ 30 := by rw [h] at k; exact k
  cases e : doRow Ws R T f fs (nxt f.ks) with
  | error n => rw [(do_err h e).1]; exact Nat.zero_le _
  | ok r =>
    rw [(do_ok h e).1]
    have bnd : ∀ {α : Type} {x : Except Int α} {g : α → Tk × Option Tk} {r : Tk × Option Tk}, (x.bind fun v => .ok (g v)) = .ok r → (∀ v, (g v).1.frs.length ≤ 31) → r.1.frs.length ≤ 31 := fun {α x g r} h1 h2 => by
      cases x with
      | error n => cases h1
      | ok v => cases h1; exact h2 v
    cases hk : nxt f.ks with
    | mk rw_ ks =>
    rw [hk] at e
    cases rw_ with
    | put x1 e1 => exact bnd e (fun v => by show fs.length + 1 ≤ 31; omega)
    | wait x1 y oe => exact bnd e (fun v => by show fs.length + 1 ≤ 31; omega)
    | iff e1 a b => exact bnd e (fun v => by show fs.length + 1 ≤ 31; omega)
    | give w e1 =>
      cases w with
      | true =>
        change (e1.evN f.env).bind (fun i => .error i) = .ok r at e
        cases h1 : e1.evN f.env with
        | error n => rw [h1] at e; cases e
        | ok i => rw [h1] at e; cases e
      | false =>
        refine bnd e (fun v => ?_)
        show (gave T v fs).frs.length ≤ 31
        cases fs with
        | nil => exact Nat.zero_le _
        | cons c fs =>
          have k2 : fs.length + 1 + 1 ≤ 30 := k'
          unfold gave
          dsimp only
          split
          · show fs.length + 1 ≤ 31; omega
          · rw [h]; show fs.length + 1 + 1 ≤ 31; omega
    | go w x1 g es =>
      cases w with
      | true => exact bnd e (fun v => by show fs.length + 1 + 1 ≤ 31; omega)
      | false => exact bnd e (fun v => by show fs.length + 1 ≤ 31; omega)
theorem rep_steps {H : Hp} {CT CF t l dt p : Addr} {xs ds cs : List Addr} {T : Tk} {rv : V} (r : TkRep H CT CF t l xs ds cs T) (ht : H t = some (.ins CT dt (tkF ⟨p, l, T.bg, T.gs, T.st, rv⟩))) (hp : H p = some (.tup (T.path.map V.int))) (hr : ORes H T.res rv) : TkRep (upd H t (.ins CT dt (tkF ⟨p, l, T.bg, T.gs, T.st + 1, rv⟩))) CT CF t l xs ds cs { T with st := T.st + 1 } := by
  obtain ⟨_, b, c, n1, n2, n3⟩ := r
  have tu : Tups H (upd H t (.ins CT dt (tkF ⟨p, l, T.bg, T.gs, T.st + 1, rv⟩))) := fun a us e => by
    rw [upd_ne (fun z => by rw [z, ht] at e; cases e)]
    exact e
  obtain ⟨i1, i2, i3⟩ := c.ins
  refine ⟨⟨dt, p, rv, upd_same, tu _ _ hp, hr.tups tu⟩, ?_, c.keep tu (fun a ha o e => ?_) (fun a ha o e => ?_) (fun a ha o e => ?_), n1, n2, n3⟩
  · rw [upd_ne (fun z => by rw [← z, b] at ht; cases ht)]; exact b
  · obtain ⟨da, Fa, k⟩ := i1 a ha
    rw [upd_ne (fun z => by rw [z, ht] at k; exact ne_tf (Option.some.inj k))]; exact e
  · obtain ⟨ka, k⟩ := i2 a ha
    rw [upd_ne (fun z => by rw [z, ht] at k; cases k)]; exact e
  · obtain ⟨ka, k⟩ := i3 a ha
    rw [upd_ne (fun z => by rw [z, ht] at k; cases k)]; exact e
theorem res_some {H : Hp} {r : Option Rz} {v : V} (h : ORes H r v) : (!decide (v = V.non)) = r.isSome := by
  cases r with
  | none => cases h; rfl
  | some r =>
    cases r with
    | gives x => obtain ⟨_, a, u, rfl, _⟩ := h; rfl
    | fails n => obtain ⟨_, a, rfl, _⟩ := h; rfl
theorem StIn.none_of {H0 H H' : Hp} {CT CF : Addr} (s : Same H0 H) : ∀ {o : Option Tk} {v : V}, StIn H H' CT CF o v → StIn H0 H' CT CF o v
  | none, _, e => e
  | some S, _, ⟨t2, l2, y, d, c, e, r, n1, n2, n3, n4, n5⟩ => ⟨t2, l2, y, d, c, e, r, s.free n1, s.free n2, s.free n3, s.free n4, s.free n5⟩
theorem StIn.keep {H H1 H2 : Hp} {CT CF : Addr} (h : Tups H1 H2) (k : ∀ a o, H a = none → H1 a = some o → H2 a = some o) : ∀ {o : Option Tk} {v : V}, StIn H H1 CT CF o v → StIn H H2 CT CF o v
  | none, _, e => e
  | some S, _, ⟨t2, l2, y, d, c, e, r, n1, n2, n3, n4, n5⟩ => ⟨t2, l2, y, d, c, e, r.keep h (fun o q => k _ _ n1 q) (fun o q => k _ _ n2 q) (fun a ha o q => by cases List.mem_singleton.mp ha; exact k _ _ n3 q) (fun a ha o q => by cases List.mem_singleton.mp ha; exact k _ _ n4 q) (fun a ha o q => by cases List.mem_singleton.mp ha; exact k _ _ n5 q), n1, n2, n3, n4, n5⟩
def StepPost (CT CF : Addr) (H : Hp) (t l : Addr) (xs ds cs : List Addr) (T' : Tk) (s : Option Tk) (n : Nd) (Q : VK) : Prop :=
  ∀ (H' : Hp) (nv sv : V) (p : Addr) (xs' ds' cs' : List Addr), H' p = some (.tup [nv, sv]) → (∀ a o, a ≠ t → a ≠ l → a ∉ xs → a ∉ ds → H a = some o → H' a = some o) → TkRep H' CT CF t l xs' ds' cs' T' → Fresh H xs xs' → Fresh H ds ds' → Fresh H cs cs' → (s.isSome = true → xs' = xs ∧ ds' = ds ∧ cs' = cs) → StIn H H' CT CF s sv → NdIn H' n nv → Q (.ref p) H'
def spStep (CT CF CK : Addr) : Sp := fun vs H Q _ => ∃ (t l bk rd : Addr) (xs ds cs : List Addr) (T : Tk) (f : Fr) (fs : List Fr) (Ws : List Wk) (R : List (List Int × Rz)) (N : Nat), vs = [.ref t, .ref bk, .ref rd] ∧ TkRep H CT CF t l xs ds cs T ∧ T.frs = f :: fs ∧ TkOk Ws N T ∧ N < 1000000 ∧ BkIn H CK bk Ws ∧ WksOk Ws ∧ ResAt H rd R ∧ Rdy R f ∧
  StepPost CT CF H t l xs ds cs (stepT Ws R T).1 (stepT Ws R T).2 (nodeOf Ws R T) Q
@[irreducible] def spWaitedI (CT CF : Addr) : Sp := spWaited CT CF
@[irreducible] def spRoomI (CT CF : Addr) : Sp := spRoomOf CT CF
theorem spWaitedI_of {CT CF : Addr} {vs : List V} {H : Hp} {Q : VK} {E : XK} (h : spWaited CT CF vs H Q E) : spWaitedI CT CF vs H Q E := by
  unfold spWaitedI
  exact h
theorem spRoomI_of {CT CF : Addr} {vs : List V} {H : Hp} {Q : VK} {E : XK} (h : spRoomOf CT CF vs H Q E) : spRoomI CT CF vs H Q E := by
  unfold spRoomI
  exact h
theorem spWaitedI_eq {CT CF : Addr} : spWaitedI CT CF = spWaited CT CF := by
  unfold spWaitedI
  rfl
theorem spRoomI_eq {CT CF : Addr} : spRoomI CT CF = spRoomOf CT CF := by
  unfold spRoomI
  rfl
section
variable {P : Program} {w : World} {K : PySem.W.Frag} {mg : Str → Option Value} {base : Heap}
theorem ok_step {f a1 a2 a3 CT CF CK : Addr} {fd d1 d2 d3 : FuncData} (F : Fun K "do_step" "do_step" sStep f fd) (TT : TkT K CT) (FT : FrT K CF) (WP : Fk P w K mg base 2 "waited_path" a1 d1 ["task"] (spWaited CT CF)) (RO : Fk P w K mg base 1 "room_of" a2 d2 ["task"] (spRoomOf CT CF)) (TY : Fk P w K mg base 14 "try_row" a3 d3 ["task", "book", "results"] (spTryH CT CF CK)) : FnOk P w K mg base CX0 15 f fd ["task", "book", "results"] (spStep CT CF CK) := by
  have WP : Fk P w K mg base 2 "waited_path" a1 d1 ["task"] (spWaitedI CT CF) := by
    rw [spWaitedI_eq]
    exact WP
  have RO : Fk P w K mg base 1 "room_of" a2 d2 ["task"] (spRoomI CT CF) := by
    rw [spRoomI_eq]
    exact RO
  refine F.ok scStep (fun vs H Q E h => ?_) (fun cdv A outer s H vs Q E hr h => ?_)
  · obtain ⟨t, l, bk, rd, xs, ds, cs, T, f, fs, Ws, R, N, rfl, _⟩ := h
    rfl
  obtain ⟨t, l, bk, rd, xs, ds, cs, T, f, fs, Ws, R, N, rfl, rep, efr, ok, hN, hB, wok, hR, rdy, post⟩ := h
  refine ⟨_, (pss_cons (ps_set (i := 3) scStep.nd rfl (Or.inl rfl) (pe_tup (pa_cons (pe_fld (pv 0) rfl) (pa_cons (pe_fld (pv 0) rfl) (pa_cons (pe_fld (pe_ix ix_list (pe_fld (pv 0) rfl) (pe_un un_neg pe_int) (fun _ _ => rfl)) rfl) (pa_cons (pe_call WP.G (hr.mono (by omega)) (by rfl) WP.m WP.k WP.b .nil pass0 (pa_cons (pv 0) pa_nil)) pa_nil))))))
    (pss_cons (ps_set (i := 4) scStep.nd rfl (Or.inl rfl) (pe_call RO.G (hr.mono (by omega)) (by rfl) RO.m RO.k RO.b .nil pass0 (pa_cons (pv 0) pa_nil)))
    (pss_cons (ps_asg (pe_call TY.G (hr.mono (by omega)) (by rfl) TY.m TY.k TY.b .nil pass0 (pa_cons (pv 0) (pa_cons (pv 1) (pa_cons (pv 2) pa_nil)))) (pg_tup rfl (pgs_cons (pg_name (i := 5) scStep.nd rfl (.inl rfl)) (pgs_cons (pg_name (i := 6) scStep.nd rfl (.inl rfl)) pgs_nil))))
    (pss_cons (ps_fldaug (pv 0) pe_int in_add)
    (pss_cons (ps_set (i := 7) scStep.nd rfl (Or.inl rfl) (pe_op op_sub (pe_call RO.G (hr.mono (by omega)) (by rfl) RO.m RO.k RO.b .nil pass0 (pa_cons (pv 0) pa_nil)) (pv 4)))
    (pss_cons (ps_if (pt_cmpR op_isN (pv 5) pe_non (nomark _))
      (pss_one (ps_ret (pe_tup (pa_cons (pe_tup (StX.pa_star (pv 3) (pa_cons pe_non (pa_cons (pv 6) (pa_cons (pv 7) (pa_cons (pe_cmpR op_notN (pe_fld (pv 0) rfl) pe_non (nomark _)) pa_nil)))))) (pa_cons pe_non pa_nil)))))
      pss_nil)
    (pss_one (ps_ret (pe_tup (pa_cons (pe_tup (StX.pa_star (pv 3) (pa_cons (pe_fld (pv 5) rfl) (pa_cons (pv 6) (pa_cons (pe_op op_add (pv 7) (pe_call RO.G (hr.mono (by omega)) (by rfl) RO.m RO.k RO.b .nil pass0 (pa_cons (pv 5) pa_nil))) (pa_cons pe_bl pa_nil)))))) (pa_cons (pv 5) pa_nil))))))))))), ?_⟩
  have hs : sizeLine = 16777216 := by decide
  have rep0 := rep
  obtain ⟨⟨dt, pp, rv, ht, hpp, hres⟩, hl, hfr, ndx, ndd, lc⟩ := rep
  rw [efr] at hfr
  obtain ⟨x, xr, d, dr, c, cr, rfl, rfl, rfl, ⟨dx, q0, rows, kvs, hx, hc, hC, hrow, hE, hd, lk⟩, hrest⟩ := hfr.cons
  have hl' : H l = some (.lst (xr.reverse.map V.ref ++ [.ref x])) := by rw [hl, List.reverse_cons, List.map_append]; rfl
  refine ⟨_, rfl, t, CT, dt, _, _, rfl, ht, TT.cl, TT.path, rfl, ?_⟩
  refine ⟨_, rfl, t, CT, dt, _, _, rfl, ht, TT.cl, TT.steps, rfl, ?_⟩
  refine ⟨_, rfl, t, CT, dt, _, _, rfl, ht, TT.cl, TT.frames, rfl, _, rfl, l, _, -1, _, rfl, rfl, SqL.of hl', atI_last _ _, x, CF, dx, _, _, rfl, hx, FT.cl, FT.number, rfl, ?_⟩
  refine ⟨_, rfl, ?_⟩
  refine spWaitedI_of (wait_rep (l := l) ht hl' hx hc hC hrow hE (fun wv hwv => ?_))
  refine ⟨(by show 4 ≤ sizeLine; decide), fun hd0 nhd => ?_⟩
  have s1 := same_new nhd (.tup [V.ref pp, .int T.st, .int f.nr, wv])
  have hhd := upd_same (H := H) (a := hd0) (o := .tup [V.ref pp, .int T.st, .int f.nr, wv])
  generalize upd H hd0 (.tup [V.ref pp, .int T.st, .int f.nr, wv]) = H1 at s1 hhd ⊢
  have few := ok.dps.few
  refine ⟨_, rfl, ?_⟩
  refine spRoomI_of (room_rep (rep0.same s1) (by omega) (fun H2 s2 => ?_))
  have s12 := s1.trans s2
  obtain ⟨dk, pk, uk, hk, hpk, hWs⟩ := hB
  refine ⟨_, rfl, _, rfl, _, rfl, t, l, bk, rd, x :: xr, d :: dr, c :: cr, T, f, fs, Ws, R, N, rfl, rep0.same s12, efr, ok, hN, ⟨dk, pk, uk, s12 _ _ hk, s12 _ _ hpk, hWs.same s12⟩, wok, hR.keep (Same.tups s12) (fun o e => s12 _ _ e), rdy, ?_⟩
  intro H3 sv p xs' ds' cs' hp kp rep3 fx fd' fc sS st3
  have few3 := try_few (Ws := Ws) (R := R) efr few
  refine ⟨p, _, rfl, SqT.of hp, rfl, _, _, rfl, _, _, rfl, rfl, ?_⟩
  have rep3' := rep3
  obtain ⟨⟨dt3, pp3, rv3, ht3, hpp3, hres3⟩, hl3, hfr3, ndx3, ndd3, lc3⟩ := rep3
  refine ⟨_, rfl, t, CT, dt3, _, _, rfl, ht3, TT.cl, TT.steps, rfl, _, _, rfl, rfl, dt3, _, ht3, (by show 6 < 1000; decide), ?_⟩
  have rep4 := rep_steps rep3' ht3 hpp3 hres3
  have kp4 : ∀ a o, a ≠ t → H3 a = some o → upd H3 t (.ins CT dt3 (tkF ⟨pp3, l, (tryRow Ws R T).1.bg, (tryRow Ws R T).1.gs, (tryRow Ws R T).1.st + 1, rv3⟩)) a = some o := fun a o na e => by rw [upd_ne na]; exact e
  have ht4 := upd_same (H := H3) (a := t) (o := .ins CT dt3 (tkF ⟨pp3, l, (tryRow Ws R T).1.bg, (tryRow Ws R T).1.gs, (tryRow Ws R T).1.st + 1, rv3⟩))
  show tSeq _ _ _ _ (upd H3 t (.ins CT dt3 (tkF ⟨pp3, l, (tryRow Ws R T).1.bg, (tryRow Ws R T).1.gs, (tryRow Ws R T).1.st + 1, rv3⟩)))
  generalize upd H3 t (.ins CT dt3 (tkF ⟨pp3, l, (tryRow Ws R T).1.bg, (tryRow Ws R T).1.gs, (tryRow Ws R T).1.st + 1, rv3⟩)) = H4 at rep4 kp4 ht4 ⊢
  have ht2 := s12 _ _ ht
  have tu24 : Tups H2 H4 := fun a us e => kp4 _ _ (fun z => by rw [z, ht2] at e; cases e) (kp _ _ (fun z => by rw [z, ht2] at e; cases e) (fun z => by rw [z, s12 _ _ hl] at e; cases e) (fun z => by obtain ⟨da, Fa, k⟩ := ((rep0.same s12).frs.ins).1 a z; rw [k] at e; cases e) (fun z => by obtain ⟨ka, k⟩ := ((rep0.same s12).frs.ins).2.1 a z; rw [k] at e; cases e) e)
  have tu34 : Tups H3 H4 := fun a us e => kp4 _ _ (fun z => by rw [z, ht3] at e; cases e) e
  have st4 : StIn H2 H4 CT CF (tryRow Ws R T).2 sv := st3.keep tu34 (fun a o n e => kp4 _ _ (fun z => by rw [z, ht2] at n; cases n) e)
  have kp24 : ∀ a o, a ≠ t → a ≠ l → a ∉ x :: xr → a ∉ d :: dr → H a = some o → H4 a = some o := fun a o n1 n2 n3 n4 e => kp4 _ _ n1 (kp _ _ n1 n2 n3 n4 (s12 _ _ e))
  have hhd4 := tu24 _ _ (s2 _ _ hhd)
  have tu4 : Tups H H4 := fun a us e => tu24 _ _ (s12 _ _ e)
  refine ⟨_, rfl, ?_⟩
  refine spRoomI_of (room_rep rep4 (by show (tryRow Ws R T).1.frs.length ≤ 1000; omega) (fun H5 s5 => ⟨_, rfl, _, _, rfl, rfl, ?_⟩))
  have rep5 := rep4.same s5
  have st5 : StIn H H5 CT CF (tryRow Ws R T).2 sv := (st4.keep (Same.tups s5) (fun a o _ e => s5 _ _ e)).none_of s12
  have tnr : topNr T = f.nr := by unfold topNr; rw [efr]
  have twp : topWp T = waitedP f := by unfold topWp; rw [efr]
  have fin : ∀ (nv : V) (H6 : Hp) (q : Addr), Same H5 H6 → H6 q = some (.tup [nv, sv]) → NdIn H6 (nodeOf Ws R T) nv → Q (.ref q) H6 := fun nv H6 q s6 hq hn =>
    post H6 nv sv q xs' ds' cs' hq (fun a o n1 n2 n3 n4 e => s6 _ _ (s5 _ _ (kp24 a o n1 n2 n3 n4 e))) (rep5.same s6) (fun a ha => (fx a ha).imp id s12.free) (fun a ha => (fd' a ha).imp id s12.free) (fun a ha => (fc a ha).imp id s12.free) sS (st5.keep (Same.tups s6) (fun a o _ e => s6 _ _ e)) hn
  cases hS : (tryRow Ws R T).2 with
  | none =>
    rw [hS] at st5
    cases st5
    refine ⟨_, rfl, rfl, _, rfl, ?_⟩
    refine iteT ?_
    refine ⟨_, rfl, hd0, _, rfl, .inl (SqT.of (s5 _ _ hhd4)), _, rfl, _, rfl, _, rfl, t, CT, dt3, _, _, rfl, s5 _ _ ht4, TT.cl, TT.result, rfl, rfl, ?_⟩
    refine ⟨(by show 8 ≤ sizeLine; decide), fun p1 np1 => ⟨(by show 2 ≤ sizeLine; decide), fun p2 np2 => ?_⟩⟩
    have s6 := same_new np1 (.tup ([V.ref pp, .int T.st, .int f.nr, wv] ++ [V.non, .bl (begunB Ws R T), .int (roomT (tryRow Ws R T).1 - roomT T), .bl (!decide (rv3 = V.non))]))
    have s7 := same_new np2 (.tup [V.ref p1, .non])
    refine fin (.ref p1) _ p2 (s6.trans s7) upd_same ?_
    have tuA : Tups H _ := fun a us e => (s6.trans s7) _ _ (s5 _ _ (tu4 _ _ e))
    have en : nodeOf Ws R T = ⟨T.path, T.st, topNr T, topWp T, none, begunB Ws R T, roomT (tryRow Ws R T).1 - roomT T, (tryRow Ws R T).1.res.isSome⟩ := by unfold nodeOf; rw [hS]
    rw [en, tnr, twp, ← res_some hres3]
    exact ⟨p1, .ref pp, wv, .non, rfl, s7 _ _ upd_same, ⟨pp, rfl, tuA _ _ hpp⟩, hwv.tups tuA, rfl⟩
  | some S =>
    rw [hS] at st5
    obtain ⟨t2, l2, y, dd, cc, rfl, repS, m1, m2, m3, m4, m5⟩ := st5
    obtain ⟨dS, pS, rvS, hS1, hS2, hS3⟩ := repS.obj
    refine ⟨_, rfl, rfl, _, rfl, ?_⟩
    refine iteF ?_
    have fewS : S.frs.length ≤ 1000 := by rw [← repS.frs.len]; show 1 ≤ 1000; decide
    refine ⟨_, rfl, hd0, _, rfl, .inl (SqT.of (s5 _ _ hhd4)), _, rfl, t2, CT, dS, _, _, rfl, hS1, TT.cl, TT.path, rfl, _, rfl, _, rfl, _, rfl, ?_⟩
    refine spRoomI_of (room_rep repS fewS (fun H6 s6 => ⟨_, _, rfl, rfl, ?_⟩))
    refine ⟨(by show 8 ≤ sizeLine; decide), fun p1 np1 => ⟨_, rfl, (by show 2 ≤ sizeLine; decide), fun p2 np2 => ?_⟩⟩
    have s7 := same_new np1 (.tup ([V.ref pp, .int T.st, .int f.nr, wv] ++ [V.ref pS, .bl (begunB Ws R T), .int (roomT (tryRow Ws R T).1 - roomT T + roomT S), .bl false]))
    have s8 := same_new np2 (.tup [V.ref p1, .ref t2])
    refine fin (.ref p1) _ p2 (s6.trans (s7.trans s8)) upd_same ?_
    have tuA : Tups H _ := fun a us e => (s6.trans (s7.trans s8)) _ _ (s5 _ _ (tu4 _ _ e))
    have en : nodeOf Ws R T = ⟨T.path, T.st, topNr T, topWp T, some S.path, begunB Ws R T, roomT (tryRow Ws R T).1 - roomT T + roomT S, false⟩ := by unfold nodeOf; rw [hS]
    rw [en, tnr, twp]
    exact ⟨p1, .ref pp, wv, .ref pS, rfl, s8 _ _ upd_same, ⟨pp, rfl, tuA _ _ hpp⟩, hwv.tups tuA, ⟨pS, rfl, (s6.trans (s7.trans s8)) _ _ hS2⟩⟩
end
end SH

set_option Elab.async false
set_option linter.all false
set_option maxRecDepth 100000
namespace SH
open PySem L2
/-! ### whole runs -/
abbrev Rts := List (List Int × Rz)
def putR (R : Rts) (p : List Int) (z : Rz) : Rts := if (R.any fun r => decide (r.1 = p)) = true then R.map (fun r => if r.1 = p then (r.1, z) else r) else R ++ [(p, z)]
theorem look_map (p : List Int) (z : Rz) (q : List Int) : ∀ R : Rts, (R.map (fun r => if r.1 = p then (r.1, z) else r)).lookup q = if q = p then (if (R.any fun r => decide (r.1 = p)) = true then some z else none) else R.lookup q
  | [] => by by_cases c : q = p <;> simp [c]
  | (k, r) :: R => by
    have ih := look_map p z q R
    rw [List.map_cons, List.any_cons, List.lookup_cons]
    by_cases c : k = p
    · rw [if_pos c]
      show (match q == k with | true => some z | false => _) = _
      by_cases d : q = k
      · have e : q = p := d.trans c
        rw [beq_iff_eq.mpr d, if_pos e, decide_eq_true c, Bool.true_or, if_pos rfl]
      · have e : q ≠ p := fun y => d (y.trans c.symm)
        rw [beq_eq_false_iff_ne.mpr d, if_neg e]
        show List.lookup q (R.map _) = _
        rw [ih, if_neg e, List.lookup_cons, beq_eq_false_iff_ne.mpr d]
    · rw [if_neg c, decide_eq_false c, Bool.false_or]
      show (match q == k with | true => some r | false => _) = _
      by_cases d : q = k
      · have e : q ≠ p := fun y => c (d.symm.trans y)
        rw [beq_iff_eq.mpr d, if_neg e, List.lookup_cons, beq_iff_eq.mpr d]
      · rw [beq_eq_false_iff_ne.mpr d]
        show List.lookup q (R.map _) = _
        rw [ih, List.lookup_cons, beq_eq_false_iff_ne.mpr d]
theorem look_app (p : List Int) (z : Rz) (q : List Int) : ∀ R : Rts, (R ++ [(p, z)]).lookup q = (match R.lookup q with | some r => some r | none => if q = p then some z else none)
  | [] => by
    show List.lookup q [(p, z)] = if q = p then some z else none
    rw [List.lookup_cons]
    by_cases c : q = p
    · rw [beq_iff_eq.mpr c, if_pos c]
    · rw [beq_eq_false_iff_ne.mpr c, if_neg c]; rfl
  | (k, r) :: R => by
    rw [List.cons_append, List.lookup_cons, List.lookup_cons]
    by_cases d : q = k
    · rw [beq_iff_eq.mpr d]
    · rw [beq_eq_false_iff_ne.mpr d]; exact look_app p z q R
theorem any_look (p : List Int) : ∀ R : Rts, (R.any fun r => decide (r.1 = p)) = (R.lookup p).isSome
  | [] => rfl
  | (k, r) :: R => by
    rw [List.any_cons, List.lookup_cons, any_look p R]
    by_cases c : k = p
    · rw [decide_eq_true c, beq_iff_eq.mpr c.symm]; rfl
    · rw [decide_eq_false c, beq_eq_false_iff_ne.mpr (Ne.symm c)]; rfl
theorem look_put (R : Rts) (p : List Int) (z : Rz) (q : List Int) : (putR R p z).lookup q = if q = p then some z else R.lookup q := by
  unfold putR
  by_cases a : (R.any fun r => decide (r.1 = p)) = true
  · rw [if_pos a, look_map, if_pos a]
  · rw [if_neg a, look_app]
    by_cases c : q = p
    · rw [if_pos c]
      have : R.lookup q = none := by
        rw [any_look] at a
        rw [c]
        cases h : R.lookup p with
        | none => rfl
        | some r => rw [h] at a; exact absurd rfl a
      rw [this]
      exact (if_pos c).symm
    · rw [if_neg c, if_neg c]
      cases R.lookup q <;> rfl
def stepS (Ws : List Wk) (R : Rts) (T : Tk) (L : List Tk) : List Tk × Rts :=
  match (stepT Ws R T).2 with
  | some S => (S :: (stepT Ws R T).1 :: L, R)
  | none => match (stepT Ws R T).1.res with
    | some z => (L, putR R T.path z)
    | none => ((stepT Ws R T).1 :: L, R)
def runS (Ws : List Wk) : Nat → List Tk → Rts → Option (List Nd × Rts)
  | _, [], R => some ([], R)
  | 0, _ :: _, _ => none
  | n + 1, T :: L, R => (runS Ws n (stepS Ws R T L).1 (stepS Ws R T L).2).map fun r => (nodeOf Ws R T :: r.1, r.2)
/-! ### futures that are told of -/
def FutOk (R : Rts) (ex : Option (List Int)) (T : Tk) : Prop := ∀ f ∈ T.frs, ∀ nm p, f.env nm = some (.fut p) → (R.lookup p).isSome ∨ ex = some p
def ChainOk (R : Rts) : Option (List Int) → List Tk → Prop
  | _, [] => True
  | ex, T :: L => FutOk R ex T ∧ ChainOk R (some T.path) L
def ROkF (R : Rts) : Prop := ∀ p q, R.lookup p = some (.gives (.fut q)) → (R.lookup q).isSome
theorem ev_fut {env : Str → Option Wt} {p : List Int} : ∀ {e : Ex}, e.ev env = .ok (.fut p) → ∃ nm, env nm = some (.fut p)
  | .num i, h => by cases h
  | .nam s, h => by
    unfold Ex.ev at h
    split at h
    · cases h; exact ⟨s, by assumption⟩
    · cases h
  | .op g l r, q => by
    exfalso
    unfold Ex.ev at q
    cases h1 : l.ev env with
    | error m => rw [h1] at q; cases q
    | ok a =>
    rw [h1] at q
    change (r.ev env).bind _ = _ at q
    cases h2 : r.ev env with
    | error m => rw [h2] at q; cases q
    | ok b =>
    rw [h2] at q
    change (asNum a).bind _ = _ at q
    cases h3 : asNum a with
    | error m => rw [h3] at q; cases q
    | ok i =>
    rw [h3] at q
    change (asNum b).bind _ = _ at q
    cases h4 : asNum b with
    | error m => rw [h4] at q; cases q
    | ok j =>
    rw [h4] at q
    change (g.run i j).bind _ = _ at q
    cases h5 : g.run i j with
    | error m => rw [h5] at q; cases q
    | ok k => rw [h5] at q; cases q
theorem evs_fut {env : Str → Option Wt} {p : List Int} : ∀ {es : List Ex} {xs : List Wt}, evs env es = .ok xs → Wt.fut p ∈ xs → ∃ nm, env nm = some (.fut p)
  | [], xs, h, m => by cases h; cases m
  | e :: es, xs, h, m => by
    unfold evs at h
    cases h1 : e.ev env with
    | error n => rw [h1] at h; cases h
    | ok v =>
      rw [h1] at h
      change (evs env es).bind _ = _ at h
      cases h2 : evs env es with
      | error n => rw [h2] at h; cases h
      | ok vs =>
        rw [h2] at h
        cases h
        rcases List.mem_cons.mp m with z | z
        · exact ev_fut (h1.trans (by rw [z]))
        · exact evs_fut h2 z
theorem envOf_mem : ∀ {ns : List Str} {xs : List Wt} {nm : Str} {x : Wt}, envOf ns xs nm = some x → x ∈ xs
  | [], xs, nm, x, h => by cases xs <;> cases h
  | n :: ns, [], nm, x, h => by cases h
  | n :: ns, y :: xs, nm, x, h => by
    change setE (envOf ns xs) n y nm = some x at h
    unfold setE at h
    split at h
    · cases h; exact List.mem_cons_self
    · exact List.mem_cons_of_mem _ (envOf_mem h)
/-- what a row does to a task keeps to the rules -/
structure TryOk (Ws : List Wk) (N : Nat) (R : Rts) (T : Tk) (r : Tk × Option Tk) : Prop where
  ok : TkOk Ws N r.1
  path : r.1.path = T.path
  live : r.1.res = none → r.1.frs ≠ []
  fut : FutOk R (r.2.map Tk.path) r.1
  new : ∀ S, r.2 = some S → TkOk Ws N S ∧ S.frs ≠ [] ∧ S.res = none ∧ FutOk R none S ∧ r.1.res = none
  res : ∀ q, r.1.res = some (.gives (.fut q)) → (R.lookup q).isSome
theorem sz_up {Ws : List Wk} {N : Nat} {T : Tk} (h : TkOk Ws N T) : TkOk Ws (N + 1) T := ⟨h.each, h.tail, fun f hf => Nat.le_succ_of_le (h.sz f hf), h.dps⟩
theorem mk_ok {Ws : List Wk} (wok : WksOk Ws) {W : Wk} (hW : W ∈ Ws) {vs : List Wt} {dp nr : Int} : FrOk Ws (mkFr W vs dp nr) := ⟨hW, fun r hr => by
  cases List.mem_singleton.mp hr
  exact Rs.good_ok (wok.each W hW).rows (wok.starts W hW)⟩
theorem try_ok {Ws : List Wk} {N : Nat} {R : Rts} {T : Tk} {f : Fr} {fs : List Fr} (wok : WksOk Ws) (h4 : 4 ≤ N) (ok : TkOk Ws N T) (efr : T.frs = f :: fs) (nr : T.res = none) (fut : FutOk R none T) (rf : ROkF R) : TryOk Ws (N + 1) R T (tryRow Ws R T) := by
  have okf := ok.each f (by rw [efr]; exact List.mem_cons_self)
  have szf := ok.sz f (by rw [efr]; exact List.mem_cons_self)
  obtain ⟨rg, ksg⟩ := nxt_good okf.good
  have dps := ok.dps
  rw [efr] at dps
  obtain ⟨dp1, dp2, dp3⟩ := dps
  have dom : ∀ nm p, f.env nm = some (.fut p) → (R.lookup p).isSome := fun nm p e => (fut f (by rw [efr]; exact List.mem_cons_self) nm p e).resolve_right (fun z => by cases z)
  have fs_ok : ∀ g ∈ fs, FrOk Ws g := fun g hg => ok.each g (by rw [efr]; exact List.mem_cons_of_mem _ hg)
  have fs_call : ∀ g ∈ fs, Calling g := fun g hg => ok.tail g (by rw [efr]; exact hg)
  have fs_sz : ∀ g ∈ fs, g.sz ≤ N := fun g hg => ok.sz g (by rw [efr]; exact List.mem_cons_of_mem _ hg)
  have fs_fut : ∀ g ∈ fs, ∀ nm p, g.env nm = some (.fut p) → (R.lookup p).isSome := fun g hg nm p e => (fut g (by rw [efr]; exact List.mem_cons_of_mem _ hg) nm p e).resolve_right (fun z => by cases z)
  have fail : ∀ n, tryRow Ws R T = ({ T with frs := [], res := some (.fails n) }, none) → TryOk Ws (N + 1) R T (tryRow Ws R T) := fun n e => by
    rw [e]
    refine ⟨⟨?_, ?_, ?_, trivial⟩, rfl, (fun z => by cases z), ?_, (fun S z => by cases z), (fun q z => by cases z)⟩ <;> exact fun g hg => by cases hg
  -- a frame at the top instead of f, as deep
  have top : ∀ (g : Fr) (T1 : Tk) (s : Option Tk), T1.frs = g :: fs → T1.path = T.path → T1.res = none → FrOk Ws g → g.sz ≤ N + 1 → g.dp = f.dp → (∀ nm p, g.env nm = some (.fut p) → (R.lookup p).isSome ∨ s.map Tk.path = some p) → (∀ S, s = some S → TkOk Ws (N + 1) S ∧ S.frs ≠ [] ∧ S.res = none ∧ FutOk R none S) → TryOk Ws (N + 1) R T (T1, s) := fun g T1 s e1 e2 e3 go gs gd gf gS => by
    refine ⟨⟨fun x hx => ?_, fun x hx => ?_, fun x hx => ?_, ?_⟩, e2, fun _ => by show T1.frs ≠ []; rw [e1]; exact List.cons_ne_nil _ _, fun x hx nm p e => ?_, fun S hS => ?_, fun q z => by rw [show T1.res = none from e3] at z; cases z⟩
    · rw [show T1.frs = _ from e1] at hx
      exact (List.mem_cons.mp hx).elim (fun z => z ▸ go) (fs_ok x)
    · rw [show T1.frs = _ from e1] at hx
      exact fs_call x hx
    · rw [show T1.frs = _ from e1] at hx
      exact (List.mem_cons.mp hx).elim (fun z => z ▸ gs) (fun z => Nat.le_succ_of_le (fs_sz x z))
    · show DpOk T1.path.length T1.frs
      rw [e1, e2]
      exact ⟨by rw [gd]; exact dp1, by rw [gd]; exact dp2, dp3⟩
    · rw [show T1.frs = _ from e1] at hx
      exact (List.mem_cons.mp hx).elim (fun z => by subst z; exact gf nm p e) (fun z => .inl (fs_fut x z nm p e))
    · obtain ⟨a, b, c, d⟩ := gS S hS
      exact ⟨a, b, c, d, e3⟩
  have nameds : ∀ (nm : Str) (y : Wt) (ks : List Rs) (T1 : Tk) (s : Option Tk), T1.frs = f.named nm y ks :: fs → T1.path = T.path → T1.res = none → (∀ r ∈ ks, r.good Ws) → (∀ p, y = .fut p → (R.lookup p).isSome ∨ s.map Tk.path = some p) → (∀ S, s = some S → TkOk Ws (N + 1) S ∧ S.frs ≠ [] ∧ S.res = none ∧ FutOk R none S) → TryOk Ws (N + 1) R T (T1, s) := fun nm y ks T1 s e1 e2 e3 kg yf gS => by
    refine top (f.named nm y ks) T1 s e1 e2 e3 ⟨okf.mem, kg⟩ (Nat.succ_le_succ szf) rfl (fun nm' p e => ?_) gS
    change setE f.env nm y nm' = some (.fut p) at e
    unfold setE at e
    split at e
    · cases e; exact yf p rfl
    · exact .inl (dom nm' p e)
  cases hk : nxt f.ks with
  | mk rw_ ks =>
  rw [hk] at rg ksg
  cases rw_ with
  | put nm e =>
    cases h1 : e.ev f.env with
    | error n => exact fail n (do_err efr (by rw [hk]; show (e.ev f.env).bind _ = _; rw [h1]; rfl)).1
    | ok y =>
      rw [(do_ok (r := ({ T with frs := f.named nm y ks :: fs }, none)) efr (by rw [hk]; show (e.ev f.env).bind _ = _; rw [h1]; rfl)).1]
      exact nameds nm y ks _ none rfl rfl nr ksg (fun p z => .inl (let ⟨n, k⟩ := ev_fut (h1.trans (by rw [z])); dom n p k)) (fun S z => by cases z)
  | wait nm y0 oe =>
    cases h1 : waitV R f.env y0 oe with
    | error n => exact fail n (do_err efr (by rw [hk]; show (waitV R f.env y0 oe).bind _ = _; rw [h1]; rfl)).1
    | ok y =>
      rw [(do_ok (r := ({ T with frs := f.named nm y ks :: fs }, none)) efr (by rw [hk]; show (waitV R f.env y0 oe).bind _ = _; rw [h1]; rfl)).1]
      refine nameds nm y ks _ none rfl rfl nr ksg (fun p z => .inl ?_) (fun S z => by cases z)
      subst z
      unfold waitV at h1
      cases h2 : f.env y0 with
      | none => rw [h2] at h1; cases h1
      | some w =>
      rw [h2] at h1
      cases w with
      | num i => cases h1
      | fut q =>
      cases h3 : R.lookup q with
      | none => simp only [h3] at h1; cases h1
      | some r =>
      cases r with
      | gives x => simp only [h3] at h1; cases h1; exact rf q p h3
      | fails m =>
        simp only [h3] at h1
        cases oe with
        | none => cases h1
        | some e => obtain ⟨n, k⟩ := ev_fut h1; exact dom n p k
  | iff e A B =>
    cases h1 : e.evN f.env with
    | error n => exact fail n (do_err efr (by rw [hk]; show (e.evN f.env).bind _ = _; rw [h1]; rfl)).1
    | ok i =>
      rw [(do_ok (r := ({ T with frs := { f with ks := (if i = 0 then B else A) :: ks } :: fs }, none)) efr (by rw [hk]; show (e.evN f.env).bind _ = _; rw [h1]; rfl)).1]
      refine top _ _ none rfl rfl nr ⟨okf.mem, fun r hr => ?_⟩ (Nat.le_succ_of_le szf) rfl (fun nm p e => .inl (dom nm p e)) (fun S z => by cases z)
      rcases List.mem_cons.mp hr with z | z
      · rw [z]; split
        · exact rg.2.2
        · exact rg.2.1
      · exact ksg r z
  | give wb e =>
    cases wb with
    | true =>
      cases h1 : e.evN f.env with
      | error n => exact fail n (do_err efr (by rw [hk]; show (e.evN f.env).bind _ = _; rw [h1]; rfl)).1
      | ok i => exact fail i (do_err efr (by rw [hk]; show (e.evN f.env).bind _ = _; rw [h1]; rfl)).1
    | false =>
      cases h1 : e.ev f.env with
      | error n => exact fail n (do_err efr (by rw [hk]; show (e.ev f.env).bind _ = _; rw [h1]; rfl)).1
      | ok y =>
        have yd : ∀ p, y = .fut p → (R.lookup p).isSome := fun p z => let ⟨n, k⟩ := ev_fut (h1.trans (by rw [z])); dom n p k
        rw [(do_ok (r := (gave T y fs, none)) efr (by rw [hk]; show (e.ev f.env).bind _ = _; rw [h1]; rfl)).1]
        cases fs with
        | nil =>
          refine ⟨⟨?_, ?_, ?_, trivial⟩, rfl, (fun z => by cases z), ?_, (fun S z => by cases z), (fun q z => ?_)⟩
          · exact fun g hg => by cases hg
          · exact fun g hg => by cases hg
          · exact fun g hg => by cases hg
          · exact fun g hg => by cases hg
          · cases z; exact yd q rfl
        | cons c0 fs0 =>
          obtain ⟨nm, g, es, ks0, hcall⟩ := fs_call c0 List.mem_cons_self
          have eg : gave T y (c0 :: fs0) = { T with frs := c0.named nm y ks0 :: fs0 } := by simp only [gave, hcall]
          rw [eg]
          have okc := fs_ok c0 List.mem_cons_self
          have kg := (nxt_good okc.good).2
          rw [hcall] at kg
          refine ⟨⟨fun x hx => ?_, fun x hx => ?_, fun x hx => ?_, ?_⟩, rfl, fun _ => List.cons_ne_nil _ _, fun x hx nm' p e => .inl ?_, (fun S z => by cases z), (fun q z => by rw [show T.res = none from nr] at z; cases z)⟩
          · rcases List.mem_cons.mp hx with z | z
            · rw [z]; exact ⟨okc.mem, kg⟩
            · exact fs_ok x (List.mem_cons_of_mem _ z)
          · exact fs_call x (List.mem_cons_of_mem _ hx)
          · rcases List.mem_cons.mp hx with z | z
            · rw [z]; exact Nat.succ_le_succ (fs_sz c0 List.mem_cons_self)
            · exact Nat.le_succ_of_le (fs_sz x (List.mem_cons_of_mem _ z))
          · exact ⟨dp3.1, dp3.2.1, dp3.2.2⟩
          · rcases List.mem_cons.mp hx with z | z
            · subst z
              change setE c0.env nm y nm' = some (.fut p) at e
              unfold setE at e
              split at e
              · cases e; exact yd p rfl
              · exact fs_fut c0 List.mem_cons_self nm' p e
            · exact fs_fut x (List.mem_cons_of_mem _ z) nm' p e
  | go wb nm g es =>
    obtain ⟨⟨W, hW, eW, lW⟩, le4, low⟩ := rg
    have hw : workOf Ws g = W := by rw [← eW]; exact workOf_eq wok.nd hW
    cases wb with
    | false =>
      cases h1 : handV f.env f.dp es with
      | error n => exact fail n (do_err efr (by rw [hk]; show (handV f.env f.dp es).bind _ = _; rw [h1]; rfl)).1
      | ok vals =>
        rw [(do_ok (r := ({ T with gs := T.gs + 1, frs := f.named nm (.fut (T.path ++ [T.gs])) ks :: fs }, some (mkTk (T.path ++ [T.gs]) (mkFr W vals (f.dp + 1) 0)))) efr (by rw [hk]; show (handV f.env f.dp es).bind _ = _; rw [h1, hw]; rfl)).1]
        obtain ⟨ev, dl⟩ := handV_evs h1
        refine nameds nm _ ks _ _ rfl rfl nr ksg (fun p z => .inr (by cases z; rfl)) (fun S z => ?_)
        cases z
        refine ⟨⟨fun x hx => ?_, (fun x hx => by cases hx), fun x hx => ?_, ?_⟩, List.cons_ne_nil _ _, rfl, fun x hx nm' p e => .inl ?_⟩
        · cases List.mem_singleton.mp hx; exact mk_ok wok hW
        · cases List.mem_singleton.mp hx; show 4 ≤ N + 1; omega
        · refine ⟨?_, by show f.dp + 1 ≤ 30; omega, trivial⟩
          show (((T.path ++ [T.gs]).length + (0 + 1) : Nat) : Int) ≤ f.dp + 1
          rw [List.length_append, List.length_singleton]
          omega
        · cases List.mem_singleton.mp hx
          obtain ⟨n, k⟩ := evs_fut ev (envOf_mem e)
          exact dom n p k
    | true =>
      cases h1 : handV f.env f.dp es with
      | error n => exact fail n (do_err efr (by rw [hk]; show (handV f.env f.dp es).bind _ = _; rw [h1]; rfl)).1
      | ok vals =>
        rw [(do_ok (r := ({ T with bg := T.bg + 1, frs := mkFr W vals (f.dp + 1) T.bg :: f :: fs }, none)) efr (by rw [hk]; show (handV f.env f.dp es).bind _ = _; rw [h1, hw]; rfl)).1]
        obtain ⟨ev, dl⟩ := handV_evs h1
        refine ⟨⟨fun x hx => ?_, fun x hx => ?_, fun x hx => ?_, ?_⟩, rfl, fun _ => List.cons_ne_nil _ _, fun x hx nm' p e => .inl ?_, (fun S z => by cases z), (fun q z => by rw [show T.res = none from nr] at z; cases z)⟩
        · rcases List.mem_cons.mp hx with z | z
          · rw [z]; exact mk_ok wok hW
          · exact (List.mem_cons.mp z).elim (fun y => y ▸ okf) (fs_ok x)
        · rcases List.mem_cons.mp hx with z | z
          · rw [z]; exact ⟨nm, g, es, ks, hk⟩
          · exact fs_call x z
        · rcases List.mem_cons.mp hx with z | z
          · rw [z]; show 4 ≤ N + 1; omega
          · exact (List.mem_cons.mp z).elim (fun y => y ▸ Nat.le_succ_of_le szf) (fun y => Nat.le_succ_of_le (fs_sz x y))
        · exact ⟨by show ((T.path.length + (fs.length + 1 + 1) : Nat) : Int) ≤ f.dp + 1; omega, by show f.dp + 1 ≤ 30; omega, dp1, dp2, dp3⟩
        · rcases List.mem_cons.mp hx with z | z
          · rw [z] at e
            obtain ⟨n, k⟩ := evs_fut ev (envOf_mem e)
            exact dom n p k
          · exact (List.mem_cons.mp z).elim (fun y => by subst y; exact dom nm' p e) (fun y => fs_fut x y nm' p e)
end SH

set_option Elab.async false
set_option linter.all false
set_option maxRecDepth 100000
namespace SH
open PySem L2
abbrev sWalk : Stmt := topS 103
theorem scWalk : FnScope ["main", "book", "budget", "nodes", "results", "living", "task", "node", "started"] ["main", "book", "budget"] (defScope sWalk) := ⟨rfl, rfl, rfl, by decide +kernel, rfl, by decide +kernel, by decide +kernel⟩
/-! ### all living tasks -/
structure AInv (Ws : List Wk) (N : Nat) (R : Rts) (L : List Tk) : Prop where
  oks : ∀ T ∈ L, TkOk Ws N T
  live : ∀ T ∈ L, T.frs ≠ [] ∧ T.res = none
  chain : ChainOk R none L
  rf : ROkF R
theorem FutOk.mono {R R' : Rts} {ex ex' : Option (List Int)} {T : Tk} (h : FutOk R ex T) (k : ∀ p, (R.lookup p).isSome → (R'.lookup p).isSome) (k2 : ∀ p, ex = some p → (R'.lookup p).isSome ∨ ex' = some p) : FutOk R' ex' T := fun f hf nm p e => (h f hf nm p e).elim (fun z => .inl (k p z)) (k2 p)
theorem ChainOk.mono {R R' : Rts} (k : ∀ p, (R.lookup p).isSome → (R'.lookup p).isSome) : ∀ {L : List Tk} {ex ex' : Option (List Int)}, (∀ p, ex = some p → (R'.lookup p).isSome ∨ ex' = some p) → ChainOk R ex L → ChainOk R' ex' L
  | [], _, _, _, _ => trivial
  | T :: L, _, _, k2, ⟨a, b⟩ => ⟨a.mono k k2, ChainOk.mono k (fun p e => .inr e) b⟩
theorem AInv.up {Ws : List Wk} {N : Nat} {R : Rts} {L : List Tk} (h : AInv Ws N R L) : AInv Ws (N + 1) R L := ⟨fun T hT => sz_up (h.oks T hT), h.live, h.chain, h.rf⟩
theorem AInv.step {Ws : List Wk} {N : Nat} {R : Rts} {T : Tk} {L : List Tk} (wok : WksOk Ws) (h4 : 4 ≤ N) (h : AInv Ws N R (T :: L)) : AInv Ws (N + 1) (stepS Ws R T L).2 (stepS Ws R T L).1 := by
  obtain ⟨ne, nr⟩ := h.live T List.mem_cons_self
  obtain ⟨f, fs, efr⟩ : ∃ f fs, T.frs = f :: fs := by
    cases e : T.frs with
    | nil => exact absurd e ne
    | cons f fs => exact ⟨f, fs, rfl⟩
  have ok := try_ok wok h4 (h.oks T List.mem_cons_self) efr nr h.chain.1 h.rf
  have okS : TkOk Ws (N + 1) (stepT Ws R T).1 := ⟨ok.ok.each, ok.ok.tail, ok.ok.sz, ok.ok.dps⟩
  have oL : ∀ T' ∈ L, TkOk Ws (N + 1) T' := fun T' hT => sz_up (h.oks T' (List.mem_cons_of_mem _ hT))
  have lL : ∀ T' ∈ L, T'.frs ≠ [] ∧ T'.res = none := fun T' hT => h.live T' (List.mem_cons_of_mem _ hT)
  unfold stepS
  cases hS : (stepT Ws R T).2 with
  | some S =>
    have hS' : (tryRow Ws R T).2 = some S := hS
    obtain ⟨a, b, c, d, e⟩ := ok.new S hS'
    refine ⟨fun T' hT => ?_, fun T' hT => ?_, ⟨d, ?_, ?_⟩, h.rf⟩
    · rcases List.mem_cons.mp hT with z | z
      · exact z ▸ a
      · exact (List.mem_cons.mp z).elim (fun y => y ▸ okS) (oL T')
    · rcases List.mem_cons.mp hT with z | z
      · exact z ▸ ⟨b, c⟩
      · exact (List.mem_cons.mp z).elim (fun y => y ▸ ⟨ok.live e, e⟩) (lL T')
    · have := ok.fut
      rw [hS'] at this
      exact this
    · rw [show (stepT Ws R T).1.path = T.path from ok.path]
      exact h.chain.2
  | none =>
    have hS' : (tryRow Ws R T).2 = none := hS
    dsimp only
    cases hr : (stepT Ws R T).1.res with
    | some z =>
      have mono : ∀ p, (R.lookup p).isSome → ((putR R T.path z).lookup p).isSome := fun p e => by
        rw [look_put]
        split
        · rfl
        · exact e
      refine ⟨oL, lL, ChainOk.mono mono (fun p e => .inl ?_) h.chain.2, fun p q e => ?_⟩
      · rw [look_put, if_pos (Option.some.inj e).symm]; rfl
      · rw [look_put] at e
        split at e
        · cases e
          exact mono q (ok.res q hr)
        · exact mono q (h.rf p q e)
    | none =>
      refine ⟨fun T' hT => (List.mem_cons.mp hT).elim (fun y => y ▸ okS) (oL T'), fun T' hT => (List.mem_cons.mp hT).elim (fun y => y ▸ ⟨ok.live hr, hr⟩) (lL T'), ⟨?_, ?_⟩, h.rf⟩
      · have := ok.fut
        rw [hS'] at this
        exact this
      · rw [show (stepT Ws R T).1.path = T.path from ok.path]
        exact h.chain.2
/-! ### in memory -/
structure Lv where
  (t l : Addr) (xs ds cs : List Addr) (T : Tk)
def Lv.fp (g : Lv) : List Addr := g.t :: g.l :: (g.xs ++ g.ds)
def Lv.all (g : Lv) : List Addr := g.fp ++ g.cs
abbrev LRep (H : Hp) (CT CF : Addr) (g : Lv) : Prop := TkRep H CT CF g.t g.l g.xs g.ds g.cs g.T
def Dsj (g h : Lv) : Prop := (∀ a ∈ g.fp, a ∉ h.all) ∧ ∀ a ∈ h.fp, a ∉ g.all
theorem mem_fp {g : Lv} {a : Addr} : a ∈ g.fp ↔ a = g.t ∨ a = g.l ∨ a ∈ g.xs ∨ a ∈ g.ds := by
  unfold Lv.fp
  rw [List.mem_cons, List.mem_cons, List.mem_append]
theorem mem_all {g : Lv} {a : Addr} : a ∈ g.all ↔ a ∈ g.fp ∨ a ∈ g.cs := List.mem_append
/-- what stands there: an instance, a list, or a dict by names -/
theorem LRep.what {H : Hp} {CT CF : Addr} {g : Lv} (r : LRep H CT CF g) {a : Addr} (h : a ∈ g.all) : (∃ C d T, H a = some (.ins C d (tkF T))) ∨ (∃ C d F, H a = some (.ins C d (frF F))) ∨ (∃ us, H a = some (.lst us)) ∨ ∃ kvs, H a = some (.dK kvs) := by
  obtain ⟨i1, i2, i3⟩ := r.frs.ins
  rcases mem_all.mp h with h | h
  · rcases mem_fp.mp h with e | e | e | e
    · obtain ⟨dt, p, rv, k, _⟩ := r.obj
      exact .inl ⟨_, _, _, e ▸ k⟩
    · exact .inr (.inr (.inl ⟨_, e ▸ r.lst⟩))
    · obtain ⟨dx, F, k⟩ := i1 a e
      exact .inr (.inl ⟨_, _, _, k⟩)
    · obtain ⟨kvs, k⟩ := i2 a e
      exact .inr (.inr (.inr ⟨_, k⟩))
  · obtain ⟨us, k⟩ := i3 a h
    exact .inr (.inr (.inl ⟨_, k⟩))
theorem LRep.there {H : Hp} {CT CF : Addr} {g : Lv} (r : LRep H CT CF g) {a : Addr} (h : a ∈ g.all) : ∃ o, H a = some o := by
  rcases r.what h with ⟨_, _, _, k⟩ | ⟨_, _, _, k⟩ | ⟨_, k⟩ | ⟨_, k⟩ <;> exact ⟨_, k⟩
theorem LRep.keep {H H' : Hp} {CT CF : Addr} {g : Lv} (tu : Tups H H') (k : ∀ a ∈ g.all, ∀ o, H a = some o → H' a = some o) (r : LRep H CT CF g) : LRep H' CT CF g :=
  TkRep.keep tu (fun o e => k _ (mem_all.mpr (.inl (mem_fp.mpr (.inl rfl)))) o e) (fun o e => k _ (mem_all.mpr (.inl (mem_fp.mpr (.inr (.inl rfl))))) o e) (fun a ha o e => k a (mem_all.mpr (.inl (mem_fp.mpr (.inr (.inr (.inl ha)))))) o e) (fun a ha o e => k a (mem_all.mpr (.inl (mem_fp.mpr (.inr (.inr (.inr ha)))))) o e) (fun a ha o e => k a (mem_all.mpr (.inr ha)) o e) r
def NdsIn (H : Hp) : List Nd → List V → Prop
  | [], vs => vs = []
  | n :: ns, vs => ∃ v r, vs = v :: r ∧ NdIn H n v ∧ NdsIn H ns r
theorem NdsIn.tups {H H' : Hp} (h : Tups H H') : ∀ {ns : List Nd} {vs : List V}, NdsIn H ns vs → NdsIn H' ns vs
  | [], _, e => e
  | _ :: _, _, ⟨v, r, e, a, b⟩ => ⟨v, r, e, a.tups h, NdsIn.tups h b⟩
theorem NdsIn.len {H : Hp} : ∀ {ns : List Nd} {vs : List V}, NdsIn H ns vs → vs.length = ns.length
  | [], _, e => by cases e; rfl
  | _ :: _, _, ⟨v, r, e, a, b⟩ => by rw [e, List.length_cons, List.length_cons, NdsIn.len b]
theorem NdsIn.snoc {H : Hp} {n : Nd} {u : V} (h : NdIn H n u) : ∀ {ns : List Nd} {us : List V}, NdsIn H ns us → NdsIn H (ns ++ [n]) (us ++ [u])
  | [], _, e => by cases e; exact ⟨u, [], rfl, h, rfl⟩
  | _ :: _, _, ⟨v, r, e, a, b⟩ => by rw [e]; exact ⟨v, r ++ [u], rfl, a, NdsIn.snoc h b⟩
theorem ResIn.any {H : Hp} (p : List Int) : ∀ {R : Rts} {kvs : List (List Key × V)}, ResIn H R kvs → (kvs.any fun kv => decide (kv.1 = p.map Sum.inl)) = (R.any fun r => decide (r.1 = p))
  | [], _, e => by cases e; rfl
  | (q, r) :: R, _, ⟨v, t, e, o, h, k⟩ => by
    rw [e, List.any_cons, List.any_cons, ResIn.any p k]
    congr 1
    by_cases c : q = p
    · rw [decide_eq_true (by rw [c]), decide_eq_true c]
    · rw [decide_eq_false (fun z => c (inlInj z)), decide_eq_false c]
theorem ResIn.put {H : Hp} {p : List Int} {z : Rz} {v : V} (zo : z.ok) (hz : RzIn H z v) {R : Rts} {kvs : List (List Key × V)} (h : ResIn H R kvs) : ResIn H (putR R p z) (putK kvs (p.map Sum.inl) v) := by
  have mp : ∀ {R : Rts} {kvs : List (List Key × V)}, ResIn H R kvs → ResIn H (R.map (fun r => if r.1 = p then (r.1, z) else r)) (kvs.map (fun kv => if kv.1 = p.map Sum.inl then (kv.1, v) else kv)) := by
    intro R
    induction R with
    | nil => intro kvs e; cases e; rfl
    | cons a R ih =>
      intro kvs e
      obtain ⟨q, r⟩ := a
      obtain ⟨u, t, rfl, o, h, k⟩ := e
      rw [List.map_cons, List.map_cons]
      by_cases c : q = p
      · rw [if_pos c, if_pos (by rw [c])]
        exact ⟨v, _, rfl, zo, hz, ih k⟩
      · rw [if_neg c, if_neg (fun z => c (inlInj z))]
        exact ⟨u, _, rfl, o, h, ih k⟩
  have ap : ∀ {R : Rts} {kvs : List (List Key × V)}, ResIn H R kvs → ResIn H (R ++ [(p, z)]) (kvs ++ [(p.map Sum.inl, v)]) := by
    intro R
    induction R with
    | nil => intro kvs e; cases e; exact ⟨v, [], rfl, zo, hz, rfl⟩
    | cons a R ih =>
      intro kvs e
      obtain ⟨q, r⟩ := a
      obtain ⟨u, t, rfl, o, h, k⟩ := e
      exact ⟨u, _, rfl, o, h, ih k⟩
  unfold putR putK
  rw [ResIn.any p h]
  split
  · exact mp h
  · exact ap h
structure WInv (CT CF : Addr) (H0 : Hp) (fp0 : List Addr) (nl lv rd : Addr) (G : List Lv) (ns : List Nd) (R : Rts) (H : Hp) : Prop where
  reps : ∀ g ∈ G, LRep H CT CF g
  dsj : G.Pairwise Dsj
  hlv : H lv = some (.lst ((G.map Lv.t).reverse.map V.ref))
  hnl : ∃ nvs, H nl = some (.lst nvs) ∧ NdsIn H ns nvs
  hrd : ResAt H rd R
  out : ∀ g ∈ G, nl ∉ g.all ∧ lv ∉ g.all
  nlv : nl ≠ lv
  keep : ∀ a o, a ∉ fp0 → H0 a = some o → H a = some o
  own : ∀ g ∈ G, ∀ a ∈ g.fp, a ∈ fp0 ∨ H0 a = none
  new : H0 nl = none ∧ H0 lv = none ∧ H0 rd = none
theorem ResAt.at_ {H : Hp} {d : Addr} {R : Rts} : ResAt H d R → ∃ kvs, H d = some (.dT kvs)
  | ⟨kvs, e, _⟩ => ⟨kvs, e⟩
theorem LRep.noRd {H : Hp} {CT CF : Addr} {g : Lv} (r : LRep H CT CF g) {d : Addr} {kvs : List (List Key × V)} (h : H d = some (.dT kvs)) : d ∉ g.all := fun z => by
  rcases r.what z with ⟨_, _, _, k⟩ | ⟨_, _, _, k⟩ | ⟨_, k⟩ | ⟨_, k⟩ <;> (rw [h] at k; cases k)
/-- one of the three that are the walk's own changes -/
theorem WInv.chg {CT CF : Addr} {H0 : Hp} {fp0 : List Addr} {nl lv rd : Addr} {G : List Lv} {ns : List Nd} {R : Rts} {H : Hp} (w : WInv CT CF H0 fp0 nl lv rd G ns R H) {b : Addr} {o : HO} (hb : b = nl ∨ b = lv ∨ b = rd) (no : ∀ us, H b ≠ some (.tup us)) : Tups H (upd H b o) ∧ (∀ g ∈ G, LRep (upd H b o) CT CF g) ∧ ∀ a o', a ∉ fp0 → H0 a = some o' → upd H b o a = some o' := by
  have tu : Tups H (upd H b o) := fun a us e => by
    rw [upd_ne (fun z => by rw [z] at e; exact no us e)]
    exact e
  obtain ⟨kvs, hrd⟩ := w.hrd.at_
  refine ⟨tu, fun g hg => (w.reps g hg).keep tu (fun a ha o' e => ?_), fun a o' na e => ?_⟩
  · rw [upd_ne (fun z => ?_)]
    · exact e
    · rcases hb with h | h | h
      · exact (w.out g hg).1 (h ▸ z ▸ ha)
      · exact (w.out g hg).2 (h ▸ z ▸ ha)
      · exact (w.reps g hg).noRd hrd (h ▸ z ▸ ha)
  · rw [upd_ne (fun z => ?_)]
    · exact w.keep a o' na e
    · rcases hb with h | h | h
      · rw [z, h, w.new.1] at e; cases e
      · rw [z, h, w.new.2.1] at e; cases e
      · rw [z, h, w.new.2.2] at e; cases e
end SH

set_option Elab.async false
set_option linter.all false
set_option maxRecDepth 100000
namespace SH
open PySem L2
theorem WInv.lvNew {CT CF : Addr} {H0 : Hp} {fp0 : List Addr} {nl lv rd : Addr} {G G' : List Lv} {ns : List Nd} {R : Rts} {H : Hp} (w : WInv CT CF H0 fp0 nl lv rd G ns R H) (sub : ∀ g ∈ G', LRep H CT CF g ∧ nl ∉ g.all ∧ lv ∉ g.all ∧ ∀ a ∈ g.fp, a ∈ fp0 ∨ H0 a = none) (d : G'.Pairwise Dsj) : WInv CT CF H0 fp0 nl lv rd G' ns R (upd H lv (.lst ((G'.map Lv.t).reverse.map V.ref))) := by
  have nt : ∀ us, H lv ≠ some (.tup us) := fun us e => by rw [w.hlv] at e; cases e
  obtain ⟨tu, _, kp⟩ := w.chg (b := lv) (o := .lst ((G'.map Lv.t).reverse.map V.ref)) (.inr (.inl rfl)) nt
  obtain ⟨nvs, hn, hN⟩ := w.hnl
  obtain ⟨kvs, hr, hR⟩ := w.hrd
  refine ⟨fun g hg => (sub g hg).1.keep tu (fun a ha o e => ?_), d, upd_same, ⟨nvs, ?_, hN.tups tu⟩, ⟨kvs, ?_, hR.tups tu⟩, fun g hg => ⟨(sub g hg).2.1, (sub g hg).2.2.1⟩, w.nlv, kp, fun g hg => (sub g hg).2.2.2, w.new⟩
  · rw [upd_ne (fun (z : a = lv) => (sub g hg).2.2.1 (z ▸ ha))]; exact e
  · rw [upd_ne w.nlv]; exact hn
  · rw [upd_ne (fun z => by rw [z, w.hlv] at hr; cases hr)]; exact hr
/-- behind a step: the task's own parts changed, the node told -/
theorem WInv.stepped {CT CF : Addr} {H0 : Hp} {fp0 : List Addr} {nl lv rd : Addr} {g : Lv} {G : List Lv} {ns : List Nd} {R : Rts} {H H2 : Hp} {xs' ds' cs' : List Addr} {T' : Tk} {nv : V} {n : Nd} {nvs : List V} (w : WInv CT CF H0 fp0 nl lv rd (g :: G) ns R H) (hn : H nl = some (.lst nvs)) (hN : NdsIn H ns nvs)
    (kp : ∀ a o, a ≠ g.t → a ≠ g.l → a ∉ g.xs → a ∉ g.ds → H a = some o → H2 a = some o) (rep : TkRep H2 CT CF g.t g.l xs' ds' cs' T') (fx : Fresh H g.xs xs') (fd : Fresh H g.ds ds') (fc : Fresh H g.cs cs') (nd : NdIn H2 n nv) :
    WInv CT CF H0 fp0 nl lv rd (⟨g.t, g.l, xs', ds', cs', T'⟩ :: G) (ns ++ [n]) R (upd H2 nl (.lst (nvs ++ [nv]))) ∧ H2 nl = some (.lst nvs) ∧ (∀ a o, a ∉ g.fp → H a = some o → H2 a = some o) ∧ Tups H2 (upd H2 nl (.lst (nvs ++ [nv]))) := by
  have gr := w.reps g List.mem_cons_self
  have kp2 : ∀ a o, a ∉ g.fp → H a = some o → H2 a = some o := fun a o na e => kp a o (fun z => na (mem_fp.mpr (.inl z))) (fun z => na (mem_fp.mpr (.inr (.inl z)))) (fun z => na (mem_fp.mpr (.inr (.inr (.inl z))))) (fun z => na (mem_fp.mpr (.inr (.inr (.inr z))))) e
  have tu : Tups H H2 := fun a us e => kp2 _ _ (fun z => by rcases gr.what (mem_all.mpr (.inl z)) with ⟨_, _, _, k⟩ | ⟨_, _, _, k⟩ | ⟨_, k⟩ | ⟨_, k⟩ <;> (rw [e] at k; cases k)) e
  have og := w.out g List.mem_cons_self
  have hn2 : H2 nl = some (.lst nvs) := kp2 _ _ (fun z => og.1 (mem_all.mpr (.inl z))) hn
  have hlv2 := kp2 _ _ (fun z => og.2 (mem_all.mpr (.inl z))) w.hlv
  obtain ⟨kvs, hr, hR⟩ := w.hrd
  have hr2 := kp2 _ _ (fun z => gr.noRd hr (mem_all.mpr (.inl z))) hr
  have dG := (List.pairwise_cons.mp w.dsj).1
  have reps2 : ∀ h ∈ G, LRep H2 CT CF h := fun h hh => (w.reps h (List.mem_cons_of_mem _ hh)).keep tu (fun a ha o e => kp2 a o (fun z => (dG h hh).1 a z ha) e)
  have sfp : ∀ a, a ∈ (⟨g.t, g.l, xs', ds', cs', T'⟩ : Lv).fp → a ∈ g.fp ∨ H a = none := fun a ha => by
    rcases mem_fp.mp ha with e | e | e | e
    · exact .inl (mem_fp.mpr (.inl e))
    · exact .inl (mem_fp.mpr (.inr (.inl e)))
    · exact (fx a e).imp (fun z => mem_fp.mpr (.inr (.inr (.inl z)))) id
    · exact (fd a e).imp (fun z => mem_fp.mpr (.inr (.inr (.inr z)))) id
  have sall : ∀ a, a ∈ (⟨g.t, g.l, xs', ds', cs', T'⟩ : Lv).all → a ∈ g.all ∨ H a = none := fun a ha => by
    rcases mem_all.mp ha with e | e
    · exact (sfp a e).imp (fun z => mem_all.mpr (.inl z)) id
    · exact (fc a e).imp (fun z => mem_all.mpr (.inr z)) id
  have tun : Tups H2 (upd H2 nl (.lst (nvs ++ [nv]))) := Tups.lst hn2
  have nal : ∀ {a : Addr} {h : Lv}, LRep H CT CF h → a ∈ h.all → H a ≠ none := fun r ha z => by
    obtain ⟨o, k⟩ := r.there ha
    rw [z] at k; cases k
  have out' : nl ∉ (⟨g.t, g.l, xs', ds', cs', T'⟩ : Lv).all ∧ lv ∉ (⟨g.t, g.l, xs', ds', cs', T'⟩ : Lv).all := ⟨fun z => (sall _ z).elim og.1 (fun e => by rw [hn] at e; cases e), fun z => (sall _ z).elim og.2 (fun e => by rw [w.hlv] at e; cases e)⟩
  refine ⟨⟨fun h hh => ?_, ?_, ?_, ⟨nvs ++ [nv], upd_same, (NdsIn.snoc nd (hN.tups tu)).tups tun⟩, ⟨kvs, ?_, (hR.tups tu).tups tun⟩, fun h hh => ?_, w.nlv, fun a o na e => ?_, fun h hh a ha => ?_, w.new⟩, hn2, kp2, tun⟩
  · rcases List.mem_cons.mp hh with e | e
    · subst e
      exact LRep.keep tun (fun a ha o e => by rw [upd_ne (fun (z : a = nl) => out'.1 (z ▸ ha))]; exact e) rep
    · exact (reps2 h e).keep tun (fun a ha o k => by rw [upd_ne (fun (z : a = nl) => (w.out h (List.mem_cons_of_mem _ e)).1 (z ▸ ha))]; exact k)
  · refine List.pairwise_cons.mpr ⟨fun h hh => ⟨fun a ha z => ?_, fun a ha z => ?_⟩, (List.pairwise_cons.mp w.dsj).2⟩
    · exact (sfp a ha).elim (fun y => (dG h hh).1 a y z) (nal (w.reps h (List.mem_cons_of_mem _ hh)) z)
    · exact (sall a z).elim (fun y => (dG h hh).2 a ha y) (nal (w.reps h (List.mem_cons_of_mem _ hh)) (mem_all.mpr (.inl ha)))
  · rw [upd_ne (Ne.symm w.nlv)]; exact hlv2
  · rw [upd_ne (fun z => by rw [z, hn2] at hr2; cases hr2)]; exact hr2
  · rcases List.mem_cons.mp hh with e | e
    · exact e ▸ out'
    · exact w.out h (List.mem_cons_of_mem _ e)
  · rw [upd_ne (fun z => by rw [z, w.new.1] at e; cases e)]
    exact kp2 a o (fun z => (w.own g List.mem_cons_self a z).elim na (fun y => by rw [y] at e; cases e)) (w.keep a o na e)
  · rcases List.mem_cons.mp hh with e | e
    · subst e
      rcases sfp a ha with y | y
      · exact w.own g List.mem_cons_self a y
      · by_cases c : a ∈ fp0
        · exact .inl c
        · refine .inr ?_
          cases k : H0 a with
          | none => rfl
          | some o => rw [w.keep a o c k] at y; cases y
    · exact w.own h (List.mem_cons_of_mem _ e) a ha
def spWalk (CT CF CK CS : Addr) : Sp := fun vs H Q E => ∃ (t l bk : Addr) (xs ds cs : List Addr) (T : Tk) (Ws : List Wk) (b : Nat), vs = [.ref t, .ref bk, .int b] ∧ TkRep H CT CF t l xs ds cs T ∧ BkIn H CK bk Ws ∧ WksOk Ws ∧ AInv Ws 4 [] [T] ∧ b ≤ 100000 ∧
  match runS Ws b [T] [] with
  | none => ∀ H1, (∀ a o, a ∉ (⟨t, l, xs, ds, cs, T⟩ : Lv).fp → H a = some o → H1 a = some o) → ∀ x, H1 x = none → E (.ref CS) (some x) (upd H1 x (.xd [("steps", .int b)]))
  | some r => ∀ (p nl rd : Addr) (nvs : List V) (H' : Hp), (∀ a o, a ∉ (⟨t, l, xs, ds, cs, T⟩ : Lv).fp → H a = some o → H' a = some o) → H' p = some (.tup [.ref nl, .ref rd]) → H' nl = some (.lst nvs) → NdsIn H' r.1 nvs → ResAt H' rd r.2 → Q (.ref p) H'
theorem putR_len (R : Rts) (p : List Int) (z : Rz) : (putR R p z).length ≤ R.length + 1 := by
  unfold putR
  split
  · rw [List.length_map]; omega
  · rw [List.length_append, List.length_singleton]; exact Nat.le_refl _
theorem ResIn.len {H : Hp} : ∀ {R : Rts} {kvs : List (List Key × V)}, ResIn H R kvs → kvs.length = R.length
  | [], _, e => by cases e; rfl
  | _ :: _, _, ⟨v, t, e, o, k, r⟩ => by rw [e, List.length_cons, List.length_cons, ResIn.len r]
/-- where the walk is -/
def WSt (CT CF : Addr) (H0 : Hp) (g0 : Lv) (bk nl rd lv : Addr) (Ws : List Wk) (b m : Nat) (σ : L2.St) (H : Hp) : Prop := ∃ (G : List Lv) (ns : List Nd) (R : Rts) (y6 y7 y8 : Option V), σ = [some (.ref g0.t), some (.ref bk), some (.int b), some (.ref nl), some (.ref rd), some (.ref lv), y6, y7, y8] ∧ m = b - ns.length ∧ ns.length ≤ b ∧ G.length ≤ ns.length + 1 ∧ R.length ≤ ns.length ∧ WInv CT CF H0 g0.fp nl lv rd G ns R H ∧ AInv Ws (4 + ns.length) R (G.map Lv.T) ∧
  runS Ws b [g0.T] [] = (runS Ws (b - ns.length) (G.map Lv.T) R).map fun r => (ns ++ r.1, r.2)
theorem WInv.put {CT CF : Addr} {H0 : Hp} {fp0 : List Addr} {nl lv rd : Addr} {G : List Lv} {ns : List Nd} {R : Rts} {H : Hp} {kvs : List (List Key × V)} {p : List Int} {z : Rz} {v : V} (w : WInv CT CF H0 fp0 nl lv rd G ns R H) (hr : H rd = some (.dT kvs)) (zo : z.ok) (hz : RzIn H z v) : WInv CT CF H0 fp0 nl lv rd G ns (putR R p z) (upd H rd (.dT (putK kvs (p.map Sum.inl) v))) := by
  obtain ⟨tu, rs, kp⟩ := w.chg (b := rd) (o := .dT (putK kvs (p.map Sum.inl) v)) (.inr (.inr rfl)) (fun us e => by rw [hr] at e; cases e)
  obtain ⟨nvs, hn, hN⟩ := w.hnl
  obtain ⟨kvs', hr', hR⟩ := w.hrd
  have e : kvs' = kvs := by rw [hr] at hr'; cases hr'; rfl
  subst e
  refine ⟨rs, w.dsj, ?_, ⟨nvs, ?_, hN.tups tu⟩, ⟨_, upd_same, (ResIn.put zo hz hR).tups tu⟩, w.out, w.nlv, kp, w.own, w.new⟩
  · rw [upd_ne (fun e => by rw [← e, w.hlv] at hr; cases hr)]; exact w.hlv
  · rw [upd_ne (fun e => by rw [← e, hn] at hr; cases hr)]; exact hn
theorem runS_step {Ws : List Wk} {n : Nat} {T : Tk} {L : List Tk} {R : Rts} : runS Ws (n + 1) (T :: L) R = (runS Ws n (stepS Ws R T L).1 (stepS Ws R T L).2).map fun r => (nodeOf Ws R T :: r.1, r.2) := rfl
theorem ne_bt {C d C' d' p : Addr} {T : TkSt} (h : HO.ins C d [("works", V.ref p)] = HO.ins C' d' (tkF T)) : False := by
  injection h with _ _ h
  injection h with h
  injection h with h
  revert h
  decide
theorem ne_bf {C d C' d' p : Addr} {F : FrSt} (h : HO.ins C d [("works", V.ref p)] = HO.ins C' d' (frF F)) : False := by
  injection h with _ _ h
  injection h with h
  injection h with h
  revert h
  decide
theorem RsIn.tups {H H' : Hp} (h : Tups H H') : ∀ {r : Rs} {vs : List V}, RsIn H r vs → RsIn H' r vs
  | .nil, _, e => e
  | .put _ _ _, _, ⟨a, v, r, e, k, t, q⟩ => ⟨a, v, r, e, h _ _ k, t.tups h, RsIn.tups h q⟩
  | .go _ _ _ _ _, _, ⟨a, p, ws, r, e, k, k2, t, q⟩ => ⟨a, p, ws, r, e, h _ _ k, h _ _ k2, t.tups h, RsIn.tups h q⟩
  | .wait _ _ _ _, _, ⟨a, v, r, e, k, t, q⟩ => ⟨a, v, r, e, h _ _ k, t.tups h, RsIn.tups h q⟩
  | .iff _ _ _ _, _, ⟨a, v, p, xs, p', ys, r, e, k, t, k1, q1, k2, q2, q⟩ => ⟨a, v, p, xs, p', ys, r, e, h _ _ k, t.tups h, h _ _ k1, RsIn.tups h q1, h _ _ k2, RsIn.tups h q2, RsIn.tups h q⟩
  | .give _ _ _, _, ⟨a, v, r, e, k, t, q⟩ => ⟨a, v, r, e, h _ _ k, t.tups h, RsIn.tups h q⟩
theorem WkIn.tups {H H' : Hp} (h : Tups H H') {W : Wk} {v : V} : WkIn H W v → WkIn H' W v
  | ⟨a, pn, pr, xs, e, k1, k2, k3, q⟩ => ⟨a, pn, pr, xs, e, h _ _ k1, h _ _ k2, h _ _ k3, q.tups h⟩
theorem runS_nil {Ws : List Wk} {R : Rts} : ∀ n : Nat, runS Ws n [] R = some ([], R)
  | 0 => rfl
  | _ + 1 => rfl
theorem runS_zero {Ws : List Wk} {T : Tk} {L : List Tk} {R : Rts} : runS Ws 0 (T :: L) R = none := rfl
theorem BkIn.keep {H H' : Hp} {CK bk : Addr} {Ws : List Wk} (tu : Tups H H') (k : ∀ o, H bk = some o → H' bk = some o) : BkIn H CK bk Ws → BkIn H' CK bk Ws
  | ⟨dx, p, us, k1, k2, q⟩ => ⟨dx, p, us, k _ k1, tu _ _ k2, q.1, fun i v e => let ⟨W, a, b⟩ := q.2 i v e; ⟨W, a, b.tups tu⟩⟩
section
variable {P : Program} {w : World} {K : PySem.W.Frag} {mg : Str → Option Value} {base : Heap} {CS fS : Addr} {B newId i0 : String} {bmB : List Value}
theorem ok_walk {f a1 CT CF CK : Addr} {fd d1 : FuncData} (F : Fun K "walk" "walk" sWalk f fd) (TT : TkT K CT) (DS : Fk P w K mg base 15 "do_step" a1 d1 ["task", "book", "results"] (spStep CT CF CK)) (TS : SupC P K mg "Spent" "steps" CS fS B newId i0 bmB) (T : Bi mg) : FnOk P w K mg base (L2.CX P w) 16 f fd ["main", "book", "budget"] (spWalk CT CF CK CS) := by
  refine F.okX scWalk (fun vs H Q E h => ?_) (fun cdv A outer s H vs Q E hr h => ?_)
  · obtain ⟨t, l, bk, xs, ds, cs, T0, Ws, b, rfl, _⟩ := h
    rfl
  obtain ⟨t, l, bk, xs, ds, cs, T0, Ws, b, rfl, rep, hB, wok, ai, hb, q⟩ := h
  refine ⟨_, (pss_cons (ps_set (i := 3) scWalk.nd rfl (Or.inl rfl) (pe_lst pa_nil))
    (pss_cons (ps_set (i := 4) scWalk.nd rfl (Or.inl rfl) pe_dnewT)
    (pss_cons (ps_set (i := 5) scWalk.nd rfl (Or.inl rfl) (pe_lst (pa_cons (pv 0) pa_nil)))
    (pss_cons (ps_while (passes_of rfl) (pt_truth (pv 5) (fun _ => rfl))
      (pss_cons (ps_if (pt_cmpR op_ge (pe_callB call_len_seq (by rfl) T.len (by decide +kernel) (pa_cons (pv 3) pa_nil)) (pv 2) (nomark _))
      (pss_one (ps_raiseS rfl TS hr (takes_of rfl rfl rfl rfl) (pa_cons (pv 2) pa_nil) rfl))
      pss_nil)
    (pss_cons (ps_set (i := 6) scWalk.nd rfl (Or.inl rfl) (pe_ix ix_list (pv 5) (pe_un un_neg pe_int) (fun _ _ => rfl)))
    (pss_cons (ps_asg (pe_call DS.G (hr.mono (by omega)) (by rfl) DS.m DS.k DS.b .nil pass0 (pa_cons (pv 6) (pa_cons (pv 1) (pa_cons (pv 4) pa_nil)))) (pg_tup rfl (pgs_cons (pg_name (i := 7) scWalk.nd rfl (.inl rfl)) (pgs_cons (pg_name (i := 8) scWalk.nd rfl (.inl rfl)) pgs_nil))))
    (pss_cons (ps_expr (pe_bm PySem.F.plainAttrs_list PySem.F.slot_list_append PySem.F.type_list_append mt_append (pv 3) (pa_cons (pv 7) pa_nil)))
    (pss_one (ps_if (pt_cmpR op_notN (pv 8) pe_non (nomark _))
      (pss_one (ps_expr (pe_bm PySem.F.plainAttrs_list PySem.F.slot_list_append PySem.F.type_list_append mt_append (pv 5) (pa_cons (pv 8) pa_nil))))
      (pss_one (ps_if (pt_cmpR op_notN (pe_fld (pv 6) rfl) pe_non (nomark _))
      (pss_cons (ps_dput (hu_of hr) (pv 4) (pe_fld (pv 6) rfl) (pe_fld (pv 6) rfl) rfl)
    (pss_one (ps_expr (pe_bm0 PySem.F.plainAttrs_list PySem.F.slot_list_pop PySem.F.type_list_pop mt_pop (pv 5)))))
      pss_nil)))))))))
    (pss_one (ps_ret (pe_tup (pa_cons (pv 3) (pa_cons (pv 4) pa_nil))))))))), ?_⟩
  have hs : sizeLine = 16777216 := by decide
  refine ⟨Nat.zero_le _, fun nl nnl => ?_⟩
  refine fun rd nrd => ?_
  refine ⟨_, rfl, (by show 1 ≤ sizeLine; decide), fun lv nlv => ?_⟩
  have s1 := same_new nnl (.lst [])
  have s2 := same_new nrd (.dT [])
  have s3 := same_new nlv (.lst [V.ref t])
  have s23 := s2.trans s3
  have sA := s1.trans s23
  have hnl : upd (upd (upd H nl (.lst [])) rd (.dT [])) lv (.lst [V.ref t]) nl = some (.lst []) := s23 _ _ upd_same
  have hrd : upd (upd (upd H nl (.lst [])) rd (.dT [])) lv (.lst [V.ref t]) rd = some (.dT []) := s3 _ _ upd_same
  have hlv : upd (upd (upd H nl (.lst [])) rd (.dT [])) lv (.lst [V.ref t]) lv = some (.lst [V.ref t]) := upd_same
  have f2 := s1.free nrd
  have f3 := (s1.trans s2).free nlv
  have nn : nl ≠ lv := fun e => by rw [← e, s2 _ _ upd_same] at nlv; cases nlv
  generalize upd (upd (upd H nl (.lst [])) rd (.dT [])) lv (.lst [V.ref t]) = H3 at sA hnl hrd hlv ⊢
  have rep3 : LRep H CT CF ⟨t, l, xs, ds, cs, T0⟩ := rep
  obtain ⟨dk, pk, uk, hk, hpk, hWs⟩ := hB
  have nbk : bk ∉ (⟨t, l, xs, ds, cs, T0⟩ : Lv).fp := fun z => by
    rcases rep3.what (mem_all.mpr (.inl z)) with ⟨_, _, _, k⟩ | ⟨_, _, _, k⟩ | ⟨_, k⟩ | ⟨_, k⟩
    · rw [hk] at k; exact ne_bt (Option.some.inj k)
    · rw [hk] at k; exact ne_bf (Option.some.inj k)
    · rw [hk] at k; cases k
    · rw [hk] at k; cases k
  have nall : ∀ {a : Addr}, H a = none → a ∉ (⟨t, l, xs, ds, cs, T0⟩ : Lv).all := fun n z => by
    obtain ⟨o, k⟩ := rep3.there z
    rw [n] at k; cases k
  have tuple_in : ∀ {H' : Hp}, (∀ a o, a ∉ (⟨t, l, xs, ds, cs, T0⟩ : Lv).fp → H a = some o → H' a = some o) → Tups H H' := fun kp a us e => kp _ _ (fun z => by rcases rep3.what (mem_all.mpr (.inl z)) with ⟨_, _, _, k⟩ | ⟨_, _, _, k⟩ | ⟨_, k⟩ | ⟨_, k⟩ <;> (rw [e] at k; cases k)) e
  refine ⟨WSt CT CF H ⟨t, l, xs, ds, cs, T0⟩ bk nl rd lv Ws b, ⟨b, [⟨t, l, xs, ds, cs, T0⟩], [], [], none, none, none, rfl, rfl, Nat.zero_le _, Nat.le_refl _, Nat.le_refl _, ⟨?_, ?_, hlv, ⟨[], hnl, rfl⟩, ⟨[], hrd, rfl⟩, ?_, nn, fun a o _ e => sA _ _ e, ?_, nnl, f3, f2⟩, ai, ?_⟩, ?_⟩
  · intro g hg
    cases List.mem_singleton.mp hg
    exact TkRep.same sA rep
  · exact List.pairwise_singleton _ _
  · intro g hg
    cases List.mem_singleton.mp hg
    exact ⟨nall nnl, nall f3⟩
  · intro g hg a ha
    cases List.mem_singleton.mp hg
    exact .inl ha
  · show runS Ws b [T0] [] = (runS Ws b [T0] []).map fun r => (r.1, r.2)
    cases runS Ws b [T0] [] <;> rfl
  rintro m σ H' ⟨G, ns, R, y6, y7, y8, rfl, rfl, hle, hG, hRl, w0, av, hrun⟩
  obtain ⟨nvs, hn, hN⟩ := w0.hnl
  have lnv := hN.len
  refine ⟨_, rfl, _, .inl ⟨_, SqL.of w0.hlv, rfl⟩, ?_⟩
  cases G with
  | nil =>
    refine iteF ?_
    refine ⟨_, rfl, _, rfl, (by show 2 ≤ sizeLine; decide), fun p np => ?_⟩
    have sp := same_new np (.tup [V.ref nl, .ref rd])
    have er : runS Ws b [T0] [] = some (ns, R) := by
      rw [show runS Ws b [T0] [] = _ from hrun]
      show (runS Ws (b - ns.length) [] R).map _ = some (ns, R)
      rw [runS_nil]
      show some (ns ++ [], R) = some (ns, R)
      rw [List.append_nil]
    rw [er] at q
    obtain ⟨kvs, hr', hR'⟩ := w0.hrd
    exact q p nl rd nvs _ (fun a o na e => sp _ _ (w0.keep a o na e)) upd_same (sp _ _ hn) (hN.tups (Same.tups sp)) ⟨kvs, sp _ _ hr', hR'.tups (Same.tups sp)⟩
  | cons g G =>
    have hlv' : H' lv = some (.lst ((G.map Lv.t).reverse.map V.ref ++ [.ref g.t])) := by rw [w0.hlv, List.map_cons, List.reverse_cons, List.map_append]; rfl
    have ne : ((((g :: G).map Lv.t).reverse.map V.ref).isEmpty) = false := by
      rw [List.map_cons, List.reverse_cons, List.map_append]
      cases (G.map Lv.t).reverse.map V.ref <;> rfl
    rw [ne]
    refine iteT ⟨fun σ' H2 => WSt CT CF H ⟨t, l, xs, ds, cs, T0⟩ bk nl rd lv Ws b (b - (ns.length + 1)) σ' H2 ∧ ns.length < b, fun σ' H2 h => ⟨_, by have := h.2; omega, h.1⟩, ?_⟩
    refine ⟨_, rfl, nl, nvs, rfl, .inl (SqL.of hn), _, rfl, _, _, rfl, rfl, _, rfl, ?_⟩
    refine ite2 (fun c => ?_) (fun c => ?_)
    · have c := of_decide_eq_true c
      have e0 : b - ns.length = 0 := by omega
      rw [e0] at hrun
      have er : runS Ws b [T0] [] = none := hrun
      rw [er] at q
      refine ⟨_, rfl, _, rfl, .inr ⟨_, rfl, ?_⟩, fun x hx => q H' w0.keep x hx⟩
      show b.log2 < _
      by_cases z : b = 0
      · rw [z]; decide
      · exact Nat.lt_trans ((Nat.log2_lt z).mpr (show b < 2 ^ 17 by omega)) (by decide)
    have c0 : ¬ ((b : Int) ≤ ((nvs.length : Nat) : Int)) := fun z => c (decide_eq_true z)
    have c : ns.length < b := by omega
    have eb : b - ns.length = b - (ns.length + 1) + 1 := by omega
    rw [eb] at hrun
    refine ⟨_, rfl, _, rfl, lv, _, -1, _, rfl, rfl, SqL.of hlv', atI_last _ _, ?_⟩
    obtain ⟨nfr, nres⟩ := av.live g.T (List.mem_cons_self)
    obtain ⟨f, fs, efr⟩ : ∃ f fs, g.T.frs = f :: fs := by
      cases e : g.T.frs with
      | nil => exact absurd e nfr
      | cons f fs => exact ⟨f, fs, rfl⟩
    have tuH : Tups H H' := tuple_in w0.keep
    have avS := AInv.step wok (by omega) av
    have rdy : Rdy R f := fun x y oe ks _ p e => by
      have := (av.chain.1 f (by rw [efr]; exact List.mem_cons_self) y p e).resolve_right (fun z => by cases z)
      cases h : R.lookup p with
      | none => rw [h] at this; cases this
      | some r => exact ⟨r, rfl⟩
    refine ⟨_, rfl, _, rfl, _, rfl, g.t, g.l, bk, rd, g.xs, g.ds, g.cs, g.T, f, fs, Ws, R, 4 + ns.length, rfl, w0.reps g List.mem_cons_self, efr, av.oks g.T List.mem_cons_self, by omega, ⟨dk, pk, uk, w0.keep _ _ nbk hk, tuH _ _ hpk, hWs.1, fun i v e => let ⟨W, a, b⟩ := hWs.2 i v e; ⟨W, a, b.tups tuH⟩⟩, wok, w0.hrd, rdy, ?_⟩
    intro H2 nv sv p xs' ds' cs' hp kp rep2 fx fd' fc sS st nd
    refine ⟨p, _, rfl, SqT.of hp, rfl, _, _, rfl, _, _, rfl, rfl, ?_⟩
    obtain ⟨w3, hn2, kp2, tu3⟩ := w0.stepped hn hN kp rep2 fx fd' fc nd
    refine ⟨_, rfl, .inl ⟨rfl, _, SqL.of hn2⟩, _, rfl, nl, _, _, rfl, rfl, hn2, by omega, ?_⟩
    have hall : ∀ a o, H' a = none → H2 a = some o → upd H2 nl (.lst (nvs ++ [nv])) a = some o := fun a o na e => by rw [upd_ne (fun z => by rw [z, hn] at na; cases na)]; exact e
    have lns : (ns ++ [nodeOf Ws R g.T]).length = ns.length + 1 := by rw [List.length_append, List.length_singleton]
    have st3 := st.keep tu3 (fun a o na e => hall a o na e)
    generalize upd H2 nl (.lst (nvs ++ [nv])) = H3 at w3 tu3 st3 hall ⊢
    have fin : ∀ (G' : List Lv) (R' : Rts) (H4 : Hp) (y6 y7 y8 : Option V), WInv CT CF H (⟨t, l, xs, ds, cs, T0⟩ : Lv).fp nl lv rd G' (ns ++ [nodeOf Ws R g.T]) R' H4 → G'.length ≤ G.length + 2 → R'.length ≤ R.length + 1 → (G'.map Lv.T, R') = stepS Ws R g.T (G.map Lv.T) → WSt CT CF H ⟨t, l, xs, ds, cs, T0⟩ bk nl rd lv Ws b (b - (ns.length + 1)) [some (.ref t), some (.ref bk), some (.int b), some (.ref nl), some (.ref rd), some (.ref lv), y6, y7, y8] H4 := fun G' R' H4 y6 y7 y8 w4 lG lR e => by
      have e1 : G'.map Lv.T = (stepS Ws R g.T (G.map Lv.T)).1 := by rw [← e]
      have e2 : R' = (stepS Ws R g.T (G.map Lv.T)).2 := by rw [← e]
      refine ⟨G', _, R', y6, y7, y8, rfl, by rw [lns], by rw [lns]; omega, by rw [lns]; have : (g :: G).length = G.length + 1 := rfl; omega, by rw [lns]; omega, w4, ?_, ?_⟩
      · rw [lns, e1, e2]
        exact avS
      · rw [lns, e1, e2]
        refine hrun.trans ?_
        show (runS Ws (b - (ns.length + 1) + 1) (g.T :: G.map Lv.T) R).map _ = _
        rw [runS_step, Option.map_map]
        cases runS Ws (b - (ns.length + 1)) (stepS Ws R g.T (G.map Lv.T)).1 (stepS Ws R g.T (G.map Lv.T)).2 with
        | none => rfl
        | some r => show some (ns ++ (nodeOf Ws R g.T :: r.1), r.2) = some ((ns ++ [nodeOf Ws R g.T]) ++ r.1, r.2); rw [List.append_assoc]; rfl
    refine ⟨_, rfl, rfl, _, rfl, ?_⟩
    have rep3' := w3.reps _ List.mem_cons_self
    cases hS : (stepT Ws R g.T).2 with
    | some S =>
      rw [hS] at st3
      obtain ⟨t2, l2, y, dd, cc, rfl, repS, m1, m2, m3, m4, m5⟩ := st3
      refine iteT ?_
      have hlv3 := w3.hlv
      obtain ⟨ex, ed, ec⟩ := sS (by show (stepT Ws R g.T).2.isSome = true; rw [hS]; rfl)
      subst ex ed ec
      refine ⟨_, rfl, .inl ⟨rfl, _, SqL.of hlv3⟩, _, rfl, lv, _, _, rfl, rfl, hlv3, ?_, ?_⟩
      · rw [List.length_map, List.length_reverse, List.length_map]
        show G.length + 1 < sizeLine
        have : (g :: G).length = G.length + 1 := rfl
        omega
      refine ⟨?_, c⟩
      have newS : ∀ a ∈ (⟨t2, l2, [y], [dd], [cc], S⟩ : Lv).all, H' a = none := fun a ha => by
        rcases mem_all.mp ha with z | z
        · rcases mem_fp.mp z with e | e | e | e
          · rw [e]; exact m1
          · rw [e]; exact m2
          · rw [List.mem_singleton.mp e]; exact m3
          · rw [List.mem_singleton.mp e]; exact m4
        · rw [List.mem_singleton.mp z]; exact m5
      have oldG : ∀ h ∈ (⟨g.t, g.l, g.xs, g.ds, g.cs, (stepT Ws R g.T).1⟩ : Lv) :: G, ∀ a ∈ h.all, ∃ o, H' a = some o := fun h hh a ha => by
        rcases List.mem_cons.mp hh with z | z
        · subst z
          exact (w0.reps g List.mem_cons_self).there ha
        · exact (w0.reps h (List.mem_cons_of_mem _ z)).there ha
      have nS : ∀ {a : Addr} {o : HO}, H' a = some o → a ∉ (⟨t2, l2, [y], [dd], [cc], S⟩ : Lv).all := fun e z => by rw [newS _ z] at e; cases e
      have w4 := w3.lvNew (G' := (⟨t2, l2, [y], [dd], [cc], S⟩ : Lv) :: ⟨g.t, g.l, g.xs, g.ds, g.cs, (stepT Ws R g.T).1⟩ :: G) (fun h hh => ?_) (List.pairwise_cons.mpr ⟨fun h hh => ⟨fun a ha z => ?_, fun a ha z => ?_⟩, w3.dsj⟩)
      · have el : (((⟨t2, l2, [y], [dd], [cc], S⟩ : Lv) :: ⟨g.t, g.l, g.xs, g.ds, g.cs, (stepT Ws R g.T).1⟩ :: G).map Lv.t).reverse.map V.ref = ((((⟨g.t, g.l, g.xs, g.ds, g.cs, (stepT Ws R g.T).1⟩ : Lv) :: G).map Lv.t).reverse.map V.ref) ++ [V.ref t2] := by
          rw [List.map_cons, List.reverse_cons, List.map_append]; rfl
        rw [el] at w4
        refine fin _ _ _ _ _ _ w4 (by show G.length + 1 + 1 ≤ _; omega) (Nat.le_succ _) ?_
        unfold stepS
        rw [hS]
        rfl
      · rcases List.mem_cons.mp hh with z | z
        · subst z
          refine ⟨repS, nS hn, nS w0.hlv, fun a ha => ?_⟩
          by_cases ca : a ∈ (⟨t, l, xs, ds, cs, T0⟩ : Lv).fp
          · exact .inl ca
          · refine .inr ?_
            cases k : H a with
            | none => rfl
            | some o => have := w0.keep a o ca k; rw [newS a (mem_all.mpr (.inl ha))] at this; cases this
        · exact ⟨w3.reps h z, (w3.out h z).1, (w3.out h z).2, w3.own h z⟩
      · obtain ⟨o, k⟩ := oldG h hh a z
        exact nS k (mem_all.mpr (.inl ha))
      · obtain ⟨o, k⟩ := oldG h hh a (mem_all.mpr (.inl ha))
        exact nS k z
    | none =>
      rw [hS] at st3
      cases st3
      refine iteF ?_
      obtain ⟨dt3, pp3, rv3, ht3, hpp3, hres3⟩ := rep3'.obj
      refine ⟨_, rfl, g.t, CT, dt3, _, _, rfl, ht3, TT.cl, TT.result, rfl, rfl, _, rfl, ?_⟩
      have er := res_some hres3
      cases hr' : (stepT Ws R g.T).1.res with
      | none =>
        rw [show (⟨g.t, g.l, xs', ds', cs', (stepT Ws R g.T).1⟩ : Lv).T.res = none from hr'] at er
        rw [show (!decide (rv3 = V.non)) = false from er]
        refine iteF ?_
        refine ⟨fin _ _ _ _ _ _ w3 (by show G.length + 1 ≤ _; omega) (Nat.le_succ _) ?_, c⟩
        unfold stepS
        rw [hS]
        dsimp only
        rw [hr']
        rfl
      | some z =>
        rw [show (⟨g.t, g.l, xs', ds', cs', (stepT Ws R g.T).1⟩ : Lv).T.res = some z from hr'] at er hres3
        rw [show (!decide (rv3 = V.non)) = true from er]
        refine iteT ?_
        obtain ⟨kv3, hr3, hR3⟩ := w3.hrd
        have pth : (stepT Ws R g.T).1.path = g.T.path := (try_ok wok (by omega) (av.oks g.T List.mem_cons_self) efr nres av.chain.1 av.rf).path
        have hk3 : H3 pp3 = some (.tup ((g.T.path.map Sum.inl).map kV)) := by rw [kvPath, ← pth]; exact hpp3
        have w4 := w3.put (p := g.T.path) hr3 hres3.1 hres3.2
        refine ⟨_, rfl, g.t, CT, dt3, _, _, rfl, ht3, TT.cl, TT.result, rfl, _, rfl, _, rfl, g.t, CT, dt3, _, _, rfl, ht3, TT.cl, TT.path, rfl, rd, _, rfl, DPut.t hr3 hk3 ?_, ?_⟩
        · have := hR3.len; omega
        have hlv4 := w4.hlv
        have hlv5 : upd H3 rd (.dT (putK kv3 (g.T.path.map Sum.inl) rv3)) lv = some (.lst ((G.map Lv.t).reverse.map V.ref ++ [.ref g.t])) := by rw [hlv4, List.map_cons, List.reverse_cons, List.map_append]; rfl
        refine ⟨_, rfl, .inl ⟨rfl, _, SqL.of hlv5⟩, lv, _, .ref g.t, rfl, rfl, hlv5, ?_, ?_⟩
        · rw [List.length_append, List.getElem?_append_right (by simp)]
          simp
        rw [List.dropLast_concat]
        have w5 := w4.lvNew (G' := G) (fun h hh => ⟨w4.reps h (List.mem_cons_of_mem _ hh), (w4.out h (List.mem_cons_of_mem _ hh)).1, (w4.out h (List.mem_cons_of_mem _ hh)).2, w4.own h (List.mem_cons_of_mem _ hh)⟩) (List.pairwise_cons.mp w4.dsj).2
        refine ⟨fin _ _ _ _ _ _ w5 (by omega) (putR_len _ _ _) ?_, c⟩
        unfold stepS
        rw [hS]
        dsimp only
        rw [hr']
end
end SH

set_option Elab.async false
set_option linter.all false
set_option maxRecDepth 100000
namespace SH
open PySem L2
abbrev sFirst : Stmt := topS 101
abbrev sRunInit : Stmt := inClass (topS 100) 0
abbrev sSerial : Stmt := topS 99
theorem scFirst : FnScope ["book", "name", "args", "work"] ["book", "name", "args"] (defScope sFirst) := ⟨rfl, rfl, rfl, by decide +kernel, rfl, by decide +kernel, by decide +kernel⟩
theorem scRunInit : FnScope ["self", "results", "count", "most"] ["self", "results", "count", "most"] (defScope sRunInit) := ⟨rfl, rfl, rfl, by decide +kernel, rfl, by decide +kernel, by decide +kernel⟩
theorem scSerial : FnScope ["book", "name", "args", "budget", "main", "room", "nodes", "results"] ["book", "name", "args", "budget"] (defScope sSerial) := ⟨rfl, rfl, rfl, by decide +kernel, rfl, by decide +kernel, by decide +kernel⟩
/-- the first task of a run -/
def mainT (W : Wk) (args : List Int) : Tk := mkTk [] (mkFr W (args.map Wt.num) 1 0)
def spFirst (CT CF CK : Addr) : Sp := fun vs H Q _ => ∃ (bk la : Addr) (Ws : List Wk) (W : Wk) (args : List Int), vs = [.ref bk, .str W.name, .ref la] ∧ BkIn H CK bk Ws ∧ WksOk Ws ∧ W ∈ Ws ∧ H la = some (.lst (args.map V.int)) ∧ args.length = W.names.length ∧ (∀ x ∈ args, x.natAbs ≤ mostN) ∧
  ∀ (t l x d c : Addr) (H' : Hp), Same H H' → (∀ a ∈ (⟨t, l, [x], [d], [c], mainT W args⟩ : Lv).fp, H a = none) → TkRep H' CT CF t l [x] [d] [c] (mainT W args) → Q (.ref t) H'
theorem WtsIn.nums (H : Hp) : ∀ args : List Int, WtsIn H (args.map Wt.num) (args.map V.int)
  | [] => rfl
  | a :: as => ⟨_, _, rfl, rfl, WtsIn.nums H as⟩
structure RnT (K : PySem.W.Frag) (C : Addr) : Prop where
  cl : Cls K C
  result : NoAttr K C "result"
  count : NoAttr K C "count"
  most : NoAttr K C "most"
  results : NoAttr K C "results"
abbrev rnF (rv : V) (n m : Int) (rd : Addr) : List (Str × V) := [("result", rv), ("count", .int n), ("most", .int m), ("results", .ref rd)]
def spRunInit (CR : Addr) : Sp := fun vs H Q _ => ∃ (x dx rd : Addr) (n m : Int) (R : Rts) (r : Rz), vs = [.ref x, .ref rd, .int n, .int m] ∧ H x = some (.ins CR dx []) ∧ ResAt H rd R ∧ R.lookup [] = some r ∧ ∀ rv H', RzIn H' r rv → H' x = some (.ins CR dx (rnF rv n m rd)) → (∀ a o, a ≠ x → H a = some o → H' a = some o) → Q .non H'
/-- a run that has come to its end -/
def RunIn (H : Hp) (CR u : Addr) (n m : Int) (R : Rts) : Prop := ∃ (du rd : Addr) (rv : V) (r : Rz), H u = some (.ins CR du (rnF rv n m rd)) ∧ R.lookup [] = some r ∧ RzIn H r rv ∧ ResAt H rd R
def mostOf (T : Tk) (ns : List Nd) : Int := mostT (roomT T) (roomT T) (ns.map Nd.ch)
def spSerial (CT CF CK CS CR : Addr) : Sp := fun vs H Q E => ∃ (bk la : Addr) (Ws : List Wk) (W : Wk) (args : List Int) (b : Nat), vs = [.ref bk, .str W.name, .ref la, .int b] ∧ BkIn H CK bk Ws ∧ WksOk Ws ∧ W ∈ Ws ∧ H la = some (.lst (args.map V.int)) ∧ args.length = W.names.length ∧ (∀ x ∈ args, x.natAbs ≤ mostN) ∧ b ≤ 100000 ∧
  match runS Ws b [mainT W args] [] with
  | none => ∀ H1, Same H H1 → ∀ x, H1 x = none → E (.ref CS) (some x) (upd H1 x (.xd [("steps", .int b)]))
  | some r => ∀ (u : Addr) (H' : Hp), Same H H' → H u = none → RunIn H' CR u (r.1.length : Nat) (mostOf (mainT W args) r.1) r.2 → Q (.ref u) H'
/-! ### the main task comes to its end -/
theorem gave_path (T : Tk) (v : Wt) (fs : List Fr) : (gave T v fs).path = T.path := by
  cases fs with
  | nil => rfl
  | cons c fs =>
    unfold gave
    dsimp only
    split <;> rfl
theorem try_path (Ws : List Wk) (R : Rts) (T : Tk) : (tryRow Ws R T).1.path = T.path := by
  unfold tryRow
  split
  · rfl
  · rename_i f fs efr
    have bnd : ∀ {α : Type} {x : Except Int α} {g : α → Tk × Option Tk}, (∀ v, (g v).1.path = T.path) → ∀ r, (x.bind fun v => .ok (g v)) = .ok r → r.1.path = T.path := fun {α x g} h r e => by
      cases x with
      | error n => cases e
      | ok v => cases e; exact h v
    cases e : doRow Ws R T f fs (nxt f.ks) with
    | error n => rfl
    | ok r =>
      show r.1.path = T.path
      cases hk : nxt f.ks with
      | mk rw_ ks =>
      rw [hk] at e
      cases rw_ with
      | put x1 e1 => exact bnd (fun v => by rfl) r e
      | wait x1 y oe => exact bnd (fun v => by rfl) r e
      | iff e1 a b => exact bnd (fun v => by rfl) r e
      | give w e1 =>
        cases w with
        | true =>
          change (e1.evN f.env).bind (fun i => .error i) = .ok r at e
          cases h1 : e1.evN f.env with
          | error n => rw [h1] at e; cases e
          | ok i => rw [h1] at e; cases e
        | false => exact bnd (fun v => gave_path T v fs) r e
      | go w x1 g es =>
        cases w with
        | true => exact bnd (fun v => by rfl) r e
        | false => exact bnd (fun v => by rfl) r e
/-- the bottom of the living tasks is the main one, or it has ended -/
def Main (L : List Tk) (R : Rts) : Prop := (∃ T, L.getLast? = some T ∧ T.path = []) ∨ (R.lookup []).isSome
theorem Main.step {Ws : List Wk} {R : Rts} {T : Tk} {L : List Tk} (h : Main (T :: L) R) : Main (stepS Ws R T L).1 (stepS Ws R T L).2 := by
  have up : ∀ z p, (R.lookup p).isSome → ((putR R T.path z).lookup p).isSome := fun z p e => by
    rw [look_put]
    split
    · rfl
    · exact e
  have pT : (stepT Ws R T).1.path = T.path := try_path Ws R T
  have key : ∀ T', T'.path = T.path → Main (T' :: L) R := fun T' e => by
    rcases h with ⟨X, hX, pX⟩ | h
    · cases L with
      | nil => cases hX; exact .inl ⟨T', rfl, e.trans pX⟩
      | cons Y L => exact .inl ⟨X, hX, pX⟩
    · exact .inr h
  unfold stepS
  cases hS : (stepT Ws R T).2 with
  | some S =>
    rcases key _ pT with ⟨X, hX, pX⟩ | h'
    · exact .inl ⟨X, hX, pX⟩
    · exact .inr h'
  | none =>
    dsimp only
    cases hr : (stepT Ws R T).1.res with
    | none => exact key _ pT
    | some z =>
      rcases h with ⟨X, hX, pX⟩ | h
      · cases L with
        | nil =>
          cases hX
          have pX : T.path = [] := pX
          refine .inr ?_
          show ((putR R T.path z).lookup []).isSome
          rw [look_put, if_pos pX.symm]
          rfl
        | cons Y L => exact .inl ⟨X, hX, pX⟩
      · exact .inr (up z [] h)
theorem run_main {Ws : List Wk} : ∀ {n : Nat} {L : List Tk} {R : Rts} {r : List Nd × Rts}, Main L R → runS Ws n L R = some r → (r.2.lookup []).isSome
  | n, [], R, r, h, e => by
    rw [runS_nil] at e
    cases e
    exact h.resolve_left (fun ⟨T, z, _⟩ => by cases z)
  | 0, T :: L, R, r, h, e => by cases e
  | n + 1, T :: L, R, r, h, e => by
    rw [runS_step] at e
    cases k : runS Ws n (stepS Ws R T L).1 (stepS Ws R T L).2 with
    | none => rw [k] at e; cases e
    | some r' =>
      rw [k] at e
      cases e
      exact run_main (r := r') (Main.step h) k
theorem run_cnt {Ws : List Wk} : ∀ {n : Nat} {L : List Tk} {R : Rts} {r : List Nd × Rts}, runS Ws n L R = some r → r.1.length ≤ n
  | n, [], R, r, e => by rw [runS_nil] at e; cases e; exact Nat.zero_le _
  | 0, T :: L, R, r, e => by cases e
  | n + 1, T :: L, R, r, e => by
    rw [runS_step] at e
    cases k : runS Ws n (stepS Ws R T L).1 (stepS Ws R T L).2 with
    | none => rw [k] at e; cases e
    | some r' => rw [k] at e; cases e; exact Nat.succ_le_succ (run_cnt k)
theorem main_inv {Ws : List Wk} {W : Wk} {args : List Int} (wok : WksOk Ws) (hW : W ∈ Ws) : AInv Ws 4 [] [mainT W args] := by
  refine ⟨fun T hT => ?_, fun T hT => ?_, ⟨fun f hf nm p e => ?_, trivial⟩, fun p q e => by cases e⟩
  · cases List.mem_singleton.mp hT
    refine ⟨fun f hf => ?_, (fun f hf => by cases hf), fun f hf => ?_, ⟨by show ((0 + (0 + 1) : Nat) : Int) ≤ 1; decide, by show (1 : Int) ≤ 30; decide, trivial⟩⟩
    · cases List.mem_singleton.mp hf; exact mk_ok wok hW
    · cases List.mem_singleton.mp hf; exact Nat.le_refl _
  · cases List.mem_singleton.mp hT
    exact ⟨List.cons_ne_nil _ _, rfl⟩
  · cases List.mem_singleton.mp hf
    have := envOf_mem e
    obtain ⟨i, _, z⟩ := List.mem_map.mp this
    cases z
section
variable {P : Program} {w : World} {K : PySem.W.Frag} {mg : Str → Option Value} {base : Heap}
theorem ok_first {f a1 a2 a3 a4 CT CF CK CM : Addr} {fd d1 d2 d3 d4 : FuncData} {g : List Value → List Value → List Value} (F : Fun K "first_task" "first_task" sFirst f fd) (BT : BkT K mg CK) (TR : FkMX P w K mg base 2 CK "tree" a1 d1 ["self", "name"] (spBookTree CK CM)) (AN : Fk P w K mg base 2 "are_numbers" a2 d2 ["thing", "many"] spAreNums)
    (FW : FkN P w K mg base CX0 10 "frame_of_work" a3 d3 ["work", "handed", "depth", "number"] (spFrameOf CF)) (kW0 : KBn K d3 ["work", "handed", "depth", "number"] 2 [] g (fun vs _ => vs ++ [V.int 1, .int 0])) (TI : MkF P w K mg base 1 "Task" CT a4 d4 ["self", "path", "frames"] (spTaskInit CT)) (bT : Binds K d4 ["self", "path", "frames"] []) (T : Bi mg) :
    FnOk P w K mg base (L2.CX P w) 11 f fd ["book", "name", "args"] (spFirst CT CF CK) := by
  refine F.okX scFirst (fun vs H Q E h => ?_) (fun cdv A outer s H vs Q E hr h => ?_)
  · obtain ⟨bk, la, Ws, W, args, rfl, _⟩ := h
    rfl
  obtain ⟨bk, la, Ws, W, args, rfl, hB, wok, hW, hla, ln, hn, q⟩ := h
  refine ⟨_, (pss_cons (ps_set (i := 3) scFirst.nd rfl (Or.inl rfl) (pe_meth (pv 0) BT.cl TR.M TR.G (hr.mono (by omega)) TR.b .nil (passX (takes_of rfl rfl rfl rfl)) (pa_cons (pv 1) pa_nil)))
    (pss_cons (ps_if (pt_not (pt_val (pe_call AN.G (hr.mono (by omega)) (by rfl) AN.m AN.k AN.b .nil pass0 (pa_cons (pv 2) (pa_cons (pe_callB call_len_seq (by rfl) T.len (by decide +kernel) (pa_cons (pe_ix ix_tup (pv 3) pe_int (fun _ _ => rfl)) pa_nil)) pa_nil)))))
      (pss_one ps_never)
      pss_nil)
    (pss_one (ps_ret (pe_make TI.M TI.G (hr.mono (by omega)) (by rfl) TI.m bT .nil pass0 (pa_cons (pe_tup pa_nil) (pa_cons (pe_lst (pa_cons (pe_callN FW.G (hr.mono (by omega)) (by rfl) FW.m FW.k kW0 pass0 (pa_cons (pv 3) (pa_cons (pv 2) pa_nil)) pk_nil) pa_nil)) pa_nil))))))), ?_⟩
  have wo := wok.each W hW
  have few := wo.few
  obtain ⟨dk, pk, uk, hk, hpk, hWs⟩ := hB
  refine ⟨_, rfl, bk, dk, _, rfl, hk, rfl, _, rfl, bk, Ws, W.name, rfl, ⟨dk, pk, uk, hk, hpk, hWs⟩, nmLen wo.name, fun v W' hW' en hv => ?_, fun z => absurd rfl (z W hW)⟩
  have eW : W' = W := nd_inj wok.nd hW' hW en
  subst eW
  have hv0 := hv
  obtain ⟨a, pn, pr, xs, rfl, ha, hpn, hpr, hR⟩ := hv
  refine ⟨_, rfl, _, rfl, a, _, 2, _, rfl, rfl, SqT.of ha, atI_nat (j := 2) rfl, pn, _, rfl, .inr (SqT.of hpn), la, args, ?_, hla, hn, by omega, fun H1 s1 => ?_⟩
  · rw [List.length_map, ln]; rfl
  refine ⟨_, rfl, ?_⟩
  refine iteF ?_
  refine ⟨(by show 0 ≤ sizeLine; decide), fun pp npp => ?_⟩
  have s2 := same_new npp (.tup [])
  have hpp := upd_same (H := H1) (a := pp) (o := .tup [])
  generalize upd H1 pp (.tup []) = H2 at s2 hpp ⊢
  have s12 := s1.trans s2
  refine ⟨_, rfl, _, rfl, rfl, rfl, .ref a, la, W', args.map V.int, 1, 0, rfl, hv0.same s12, wo, s12 _ _ hla, by rw [List.length_map]; exact ln.symm, fun x d c dx rows H3 s3 n1 n2 n3 k1 k2 k3 k4 => ?_⟩
  refine ⟨(by show 1 ≤ sizeLine; decide), fun l nl => ?_⟩
  have s4 := same_new nl (.lst [V.ref x])
  have hl := upd_same (H := H3) (a := l) (o := .lst [V.ref x])
  have g3 := s12.trans s3
  have fl := g3.free nl
  have nlc : l ≠ c := fun e => by rw [e, k2] at nl; cases nl
  generalize upd H3 l (.lst [V.ref x]) = H4 at s4 hl ⊢
  intro t dt nt ndt ne
  have g4 := g3.trans s4
  have s5 := made_same nt ndt ne (CF := CT) (fs := tkF ⟨pp, l, 1, 0, 0, .non⟩)
  refine ⟨t, dt, pp, l, [V.ref x], rfl, upd_same, ?_, rfl, ?_⟩
  · rw [upd_ne (fun e => by rw [e, nt] at hl; cases hl), upd_ne (fun e => by rw [e, ndt] at hl; cases hl)]
    exact hl
  have ht := upd_same (H := upd (upd H4 dt (.own t)) t (.ins CT dt [])) (a := t) (o := .ins CT dt (tkF ⟨pp, l, 1, 0, 0, .non⟩))
  show Q (.ref t) (upd (upd (upd H4 dt (.own t)) t (.ins CT dt [])) t (.ins CT dt (tkF ⟨pp, l, 1, 0, 0, .non⟩)))
  generalize upd (upd (upd H4 dt (.own t)) t (.ins CT dt [])) t (.ins CT dt (tkF ⟨pp, l, 1, 0, 0, .non⟩)) = H5 at s5 ht ⊢
  have s35 := s4.trans s5
  refine q t l x d c H5 (g4.trans s5) (fun b hb => ?_) ⟨⟨dt, pp, .non, ht, (s3.trans s35) _ _ hpp, rfl⟩, s5 _ _ hl, ⟨⟨dx, 0, rows, _, s35 _ _ k1, s35 _ _ k2, k3.tups (Same.tups s35), row0 _, ⟨_, s35 _ _ k4, envOf_at (WtsIn.nums H5 args) (fun y hy => ?_)⟩, s35 _ _ k4, ?_⟩, trivial⟩, nd1 _, nd1 _, fun z => nlc (List.mem_singleton.mp z)⟩
  · rcases mem_fp.mp hb with e | e | e | e
    · rw [e]; exact g4.free nt
    · rw [e]; exact fl
    · rw [List.mem_singleton.mp e]; exact s12.free n1
    · rw [List.mem_singleton.mp e]; exact s12.free n2
  · obtain ⟨i, hi, z⟩ := List.mem_map.mp hy
    rw [← z]
    exact hn i hi
  · rw [List.length_map, List.length_zip]
    exact Nat.le_trans (Nat.min_le_left _ _) wo.few
theorem ok_runInit {f CR : Addr} {fd : FuncData} (F : Fun K "__init__" "Run.__init__" sRunInit f fd) (RT : RnT K CR) : FnOk P w K mg base CX0 1 f fd ["self", "results", "count", "most"] (spRunInit CR) := by
  refine F.ok scRunInit (fun vs H Q E h => ?_) (fun cdv A outer s H vs Q E hr h => ?_)
  · obtain ⟨x, dx, rd, n, m, R, r, rfl, _⟩ := h
    rfl
  obtain ⟨x, dx, rd, n, m, R, r, rfl, hx, hR, hr0, q⟩ := h
  refine ⟨_, (pss_cons (ps_fld (pv 0) (pe_dget (hu_of hr) (pv 1) (pe_tup pa_nil) (fun _ _ => rfl)) rfl)
    (pss_cons (ps_fld (pv 0) (pv 2) rfl)
    (pss_cons (ps_fld (pv 0) (pv 3) rfl)
    (pss_one (ps_fld (pv 0) (pv 1) rfl))))), ?_⟩
  obtain ⟨kvs, hd, hRi⟩ := hR
  obtain ⟨ro, v, hv, hin⟩ := (hRi.look []).1 r hr0
  refine ⟨_, rfl, (by show 0 ≤ sizeLine; decide), fun e0 ne0 => ?_⟩
  have s1 := same_new ne0 (.tup [])
  have D := DGet.t (k := ([] : List Key)) (s1 _ _ hd) (upd_same (H := H) (a := e0) (o := .tup []))
  rw [show valV kvs [] = some v from hv] at D
  refine ⟨rd, v, rfl, D, ?_⟩
  have hx1 := s1 _ _ hx
  have hin1 := RzIn.tups (Same.tups s1) hin
  generalize upd H e0 (.tup []) = H1 at s1 hx1 hin1 D ⊢
  refine ⟨_, rfl, x, CR, dx, _, rfl, hx1, RT.cl, RT.result, (by decide), ?_⟩
  refine ⟨_, rfl, _, rfl, x, CR, dx, _, rfl, upd_same, RT.cl, RT.count, (by show 1 < 1000; decide), ?_⟩
  rw [upd_upd]
  refine ⟨_, rfl, _, rfl, x, CR, dx, _, rfl, upd_same, RT.cl, RT.most, (by show 2 < 1000; decide), ?_⟩
  rw [upd_upd]
  refine ⟨_, rfl, _, rfl, x, CR, dx, _, rfl, upd_same, RT.cl, RT.results, (by show 3 < 1000; decide), ?_⟩
  rw [upd_upd]
  refine q v _ (hin1.tups (fun a us e => ?_)) upd_same (fun a o na e => ?_)
  · rw [upd_ne (fun z => by rw [z, hx1] at e; cases e)]; exact e
  · rw [upd_ne na]; exact s1 _ _ e
theorem nds_ch {H : Hp} : ∀ {ns : List Nd} {vs : List V}, NdsIn H ns vs → ∀ (i : Nat) (u : V), vs[i]? = some u → ∃ (a : Addr) (ts : List V) (d : Int), u = V.ref a ∧ H a = some (.tup ts) ∧ atI ts 6 = some (.int d) ∧ (ns.map Nd.ch)[i]? = some d
  | [], _, e, i, u, h => by cases e; cases h
  | n :: ns, _, ⟨v, r, e, ⟨a, pv, wv, sv, e1, k, _⟩, b⟩, 0, u, h => by
    subst e
    cases h
    exact ⟨a, _, n.ch, e1, k, atI_nat (j := 6) rfl, rfl⟩
  | n :: ns, _, ⟨v, r, e, _, b⟩, i + 1, u, h => by
    subst e
    exact nds_ch b i u h
theorem ok_serial {f a1 a2 a3 a4 a5 CT CF CK CS CR : Addr} {fd d1 d2 d3 d4 d5 : FuncData} (F : Fun K "serial" "serial" sSerial f fd) (FS : FkX P w K mg base 11 "first_task" a1 d1 ["book", "name", "args"] (spFirst CT CF CK)) (RO : Fk P w K mg base 1 "room_of" a2 d2 ["task"] (spRoomOf CT CF)) (WK : FkX P w K mg base 16 "walk" a3 d3 ["main", "book", "budget"] (spWalk CT CF CK CS)) (MT : Fk P w K mg base 1 "most_taken" a4 d4 ["room", "nodes"] spMostT)
    (RI : MkF P w K mg base 1 "Run" CR a5 d5 ["self", "results", "count", "most"] (spRunInit CR)) (bR : Binds K d5 ["self", "results", "count", "most"] []) (T : Bi mg) : FnOk P w K mg base (L2.CX P w) 17 f fd ["book", "name", "args", "budget"] (spSerial CT CF CK CS CR) := by
  have RO : Fk P w K mg base 1 "room_of" a2 d2 ["task"] (spRoomI CT CF) := by
    rw [spRoomI_eq]
    exact RO
  refine F.okX scSerial (fun vs H Q E h => ?_) (fun cdv A outer s H vs Q E hr h => ?_)
  · obtain ⟨bk, la, Ws, W, args, b, rfl, _⟩ := h
    rfl
  obtain ⟨bk, la, Ws, W, args, b, rfl, hB, wok, hW, hla, ln, hn, hb, q⟩ := h
  refine ⟨_, (pss_cons (ps_set (i := 4) scSerial.nd rfl (Or.inl rfl) (pe_call FS.G (hr.mono (by omega)) (by rfl) FS.m FS.k FS.b .nil (passX (takes_of rfl rfl rfl rfl)) (pa_cons (pv 0) (pa_cons (pv 1) (pa_cons (pv 2) pa_nil)))))
    (pss_cons (ps_set (i := 5) scSerial.nd rfl (Or.inl rfl) (pe_call RO.G (hr.mono (by omega)) (by rfl) RO.m RO.k RO.b .nil pass0 (pa_cons (pv 4) pa_nil)))
    (pss_cons (ps_asg (pe_call WK.G (hr.mono (by omega)) (by rfl) WK.m WK.k WK.b .nil (passX (takes_of rfl rfl rfl rfl)) (pa_cons (pv 4) (pa_cons (pv 0) (pa_cons (pv 3) pa_nil)))) (pg_tup rfl (pgs_cons (pg_name (i := 6) scSerial.nd rfl (.inl rfl)) (pgs_cons (pg_name (i := 7) scSerial.nd rfl (.inl rfl)) pgs_nil))))
    (pss_one (ps_ret (pe_make RI.M RI.G (hr.mono (by omega)) (by rfl) RI.m bR .nil pass0 (pa_cons (pv 7) (pa_cons (pe_callB call_len_seq (by rfl) T.len (by decide +kernel) (pa_cons (pv 6) pa_nil)) (pa_cons (pe_call MT.G (hr.mono (by omega)) (by rfl) MT.m MT.k MT.b .nil pass0 (pa_cons (pv 5) (pa_cons (pv 6) pa_nil))) pa_nil))))))))), ?_⟩
  refine ⟨_, rfl, _, rfl, _, rfl, bk, la, Ws, W, args, rfl, hB, wok, hW, hla, ln, hn, fun t l x d c H1 s1 fr rep => ?_⟩
  refine ⟨_, rfl, ?_⟩
  refine spRoomI_of (room_rep rep (by show 1 ≤ 1000; decide) (fun H2 s2 => ?_))
  have s12 := s1.trans s2
  obtain ⟨dk, pk, uk, hk, hpk, hWs⟩ := hB
  refine ⟨_, rfl, _, rfl, _, rfl, t, l, bk, [x], [d], [c], mainT W args, Ws, b, rfl, rep.same s2, ⟨dk, pk, uk, s12 _ _ hk, s12 _ _ hpk, hWs.same s12⟩, wok, main_inv wok hW, hb, ?_⟩
  have nofp : ∀ {a : Addr} {o : HO}, H a = some o → a ∉ (⟨t, l, [x], [d], [c], mainT W args⟩ : Lv).fp := fun e z => by rw [fr _ z] at e; cases e
  cases hrun : runS Ws b [mainT W args] [] with
  | none =>
    rw [hrun] at q
    exact fun H3 kp => q H3 (fun a o e => kp a o (nofp e) (s12 _ _ e))
  | some r =>
  rw [hrun] at q
  intro p nl rd nvs H3 kp hp hnl hN hR
  have s3 : Same H H3 := fun a o e => kp a o (nofp e) (s12 _ _ e)
  refine ⟨p, _, rfl, SqT.of hp, rfl, _, _, rfl, _, _, rfl, rfl, ?_⟩
  have lnv := hN.len
  refine ⟨_, rfl, _, rfl, nl, nvs, rfl, .inl (SqL.of hnl), _, rfl, _, rfl, roomT (mainT W args), nl, nvs, r.1.map Nd.ch, rfl, hnl, by rw [List.length_map]; exact lnv, nds_ch hN, ?_⟩
  intro u du nu ndu ne
  obtain ⟨z, hz⟩ := Option.isSome_iff_exists.mp (run_main (.inl ⟨_, rfl, rfl⟩) hrun)
  have s4 : Same H3 (upd (upd H3 du (.own u)) u (.ins CR du [])) := fun b o e => by
    rw [upd_ne (fun y => by rw [y, nu] at e; cases e), upd_ne (fun y => by rw [y, ndu] at e; cases e)]
    exact e
  refine ⟨u, du, rd, _, _, r.2, z, rfl, upd_same, hR.keep (Same.tups s4) (fun o e => s4 _ _ e), hz, fun rv H5 hz5 hu5 kp5 => ⟨rfl, ?_⟩⟩
  have kp35 : ∀ a o, H3 a = some o → H5 a = some o := fun a o e => kp5 a o (fun y => by rw [y, nu] at e; cases e) (s4 _ _ e)
  refine q u H5 (fun a o e => kp35 _ _ (s3 _ _ e)) (s3.free nu) ⟨du, rd, rv, z, ?_, hz, hz5, hR.keep (fun a us e => kp35 _ _ e) (fun o e => kp35 _ _ e)⟩
  rw [lnv] at hu5
  exact hu5
end
end SH

set_option Elab.async false
set_option linter.all false
set_option maxRecDepth 100000
/-! sorted of tuples whose first parts are unlike: these decide, whatever stands behind them. -/
namespace SH
open PySem PySem.Spec PyProof.Rows L2
open PySem.W (alike alikeAll keyToks keyToksAll dataKind AllAlike)
/-- tuples, any two of them the same or told apart by their first parts -/
structure Firsts (ds : List PyData) : Prop where
  tup : ∀ d ∈ ds, (∃ x r, d = .tuple (x :: r)) ∧ alike d d = true
  dif : ∀ d ∈ ds, ∀ e ∈ ds, d = e ∨ ∃ x r y t, d = .tuple (x :: r) ∧ e = .tuple (y :: t) ∧ alike x y = true ∧ PyData.eqv x y = false
theorem Firsts.first {ds : List PyData} (F : Firsts ds) {x y : PyData} {r t : List PyData} (h : PyData.tuple (x :: r) ∈ ds) (k : PyData.tuple (y :: t) ∈ ds) : alike x y = true := by
  rcases F.dif _ h _ k with e | ⟨a, b, c, d, e1, e2, al, _⟩
  · cases e
    have := (F.tup _ h).2
    exact (PySem.W.alike_all_cons (by simpa [alike] using this)).1
  · cases e1
    cases e2
    exact al
/-- one value is one of them alone -/
theorem Firsts.one {ds : List PyData} (F : Firsts ds) {h : Heap} {v : Value} {d e : PyData} {as bs : List Addr} (hd : d ∈ ds) (he : e ∈ ds) (r : Reads h v d as) (q : Reads h v e bs) : d = e := by
  rcases F.dif _ hd _ he with z | ⟨x, t, y, u, e1, e2, al, ne⟩
  · exact z
  · exfalso
    subst e1
    subst e2
    cases r with
    | tuple h1 h2 h3 h4 =>
      cases q with
      | tuple k1 k2 k3 k4 =>
        rw [h1] at k1
        cases k1
        rw [h3] at k3
        cases k3
        cases hx : Array.toList _ with
        | nil => rw [hx] at h4; cases h4
        | cons f fr =>
          rw [hx] at h4 k4
          cases h4 with
          | cons r1 _ =>
            cases k4 with
            | cons q1 _ =>
              have e := PySem.W.alike_unique _ _ _ _ _ al r1 q1
              subst e
              have : PyData.eqv x x = true := PySem.W.eqv_refl_alike x al
              rw [this] at ne
              cases ne
theorem Firsts.key {ds : List PyData} (F : Firsts ds) {h : Heap} {v : Value} {d : PyData} {as : List Addr} (hd : d ∈ ds) (r : Reads h v d as) : (dataKind h ds).keyOf v = some (keyToks d) := by
  cases e : (dataKind h ds).keyOf v with
  | some k =>
    obtain ⟨d', as', m, r', z⟩ := PySem.W.dataKind_inv e
    rw [z, F.one m hd r' r]
    rfl
  | none =>
    have q : ∃ d, d ∈ ds ∧ ∃ as, Reads h v d as := ⟨d, hd, as, r⟩
    change (open Classical in if q : ∃ d, d ∈ ds ∧ ∃ as, Reads h v d as then some (keyToks q.choose) else none) = none at e
    rw [dif_pos q] at e
    cases e
section
variable {prog : Program} {w : World} {A : Around} {s : Shared}
theorem Firsts.sorts {ds : List PyData} (F : Firsts ds) {vs : List Value} (e : PySem.W.EachIs (fun v d => ∃ as, Reads s.heap v d as) vs ds) (hu : ∀ d ∈ ds, A.units + d.depth < cLine) : PySem.W.SortsAt prog w A s (dataKind s.heap ds) vs := by
  have fst : ∀ d ∈ ds, ∃ x r, d = .tuple (x :: r) := fun d hd => (F.tup d hd).1
  refine ⟨fun v hv => ?_, ?_⟩
  · obtain ⟨d, hd, as, r⟩ := e.left v hv
    exact ⟨_, F.key hd r⟩
  · cases ds with
    | nil =>
      cases e
      refine ⟨general', fun E x y a b Q ha _ _ => ?_, fun h2 => absurd h2 (by simp)⟩
      obtain ⟨d, _, hd, _⟩ := PySem.W.dataKind_inv ha
      cases hd
    | cons d0 dr =>
      obtain ⟨x0, r0, e0⟩ := fst d0 List.mem_cons_self
      have m0 : PyData.tuple (x0 :: r0) ∈ d0 :: dr := e0 ▸ List.mem_cons_self
      refine ⟨tuples' (PySem.W.dataType x0 != Value.type "tuple"), ?_, fun h2 E Q hq => ?_⟩
      · intro E x y a b Q ha hb hq
        obtain ⟨d, as, hd, ra, rfl⟩ := PySem.W.dataKind_inv ha
        obtain ⟨d', as', hd', rb, rfl⟩ := PySem.W.dataKind_inv hb
        obtain ⟨x1, r1, rfl⟩ := fst d hd
        obtain ⟨x2, r2, rfl⟩ := fst d' hd'
        have dep : A.units + (PyData.tuple (x1 :: r1)).depth < cLine := hu _ hd
        have deps : A.units + min (PyData.tuple (x1 :: r1)).depth (PyData.tuple (x2 :: r2)).depth < cLine := Nat.lt_of_le_of_lt (Nat.add_le_add_left (Nat.min_le_left _ _) _) dep
        have hq' : Q (PySem.W.dataLt (.tuple (x1 :: r1)) (.tuple (x2 :: r2))) s := hq
        rw [PySem.W.dataLt_tuple] at hq'
        have nt : (PySem.W.dataType x0 != Value.type "tuple") = true → ∀ t, x1 ≠ .tuple t := fun hb t => by
          have q := PySem.W.dataType_alike (F.first hd m0)
          rw [← q] at hb
          exact PySem.W.dataType_tuple hb t
        cases ra with
        | @tuple l o xs n _ _ h1 h2 h3 h4 =>
          cases rb with
          | @tuple l' o' xs' n' _ _ k1 k2 k3 k4 =>
            have n1 : xs.size = (x1 :: r1).length := by simpa using SeqAt.ReadsAll.length _ _ _ h4
            have n2 : xs'.size = (x2 :: r2).length := by simpa using SeqAt.ReadsAll.length _ _ _ k4
            have rm : A.units + min (PyData.depthAll (x1 :: r1)) (PyData.depthAll (x2 :: r2)) < cLine := by have q := SeqAt.room_in deps; omega
            refine PySem.W.kat_lt h1 h3 k1 k3 ?_
            rcases F.dif _ hd _ hd' with z | ⟨a1, b1, c1, d1, y1, y2, al, ne⟩
            · have al : alike (PyData.tuple (x1 :: r1)) (PyData.tuple (x2 :: r2)) = true := by
                rw [← z]; exact (F.tup _ hd).2
              refine PySem.W.katLex_alike (x1 :: r1) (x2 :: r2) 0 _ _ _ _ h4 k4 (by simpa [alike] using al) rm (fun hb _ x r t ex => ?_) (by rw [n1, n2]) hq'
              obtain ⟨rfl, rfl⟩ := List.cons.inj ex
              exact nt hb t
            · cases y1
              cases y2
              rw [PySem.W.dataLt_all_no al ne] at hq'
              generalize decide (xs.size < xs'.size) = fin
              generalize xs.toList = us at h4 ⊢
              generalize xs'.toList = ws at k4 ⊢
              cases h4 with
              | cons q1 q2 =>
                cases k4 with
                | cons p1 p2 =>
                  rw [List.zip_cons_cons]
                  refine PySem.W.kat_cons (PySem.W.eqAt_alike _ _ A s _ _ _ _ q1 p1 al (SeqAt.room_head rm) prog w _ _ ?_)
                  rw [ne]
                  refine PySem.W.kat_no (PySem.W.oneLt_alike (fun hbi t => ?_) q1 p1 al (PySem.W.ne_none_of al ne) (SeqAt.room_head rm) hq')
                  rw [Bool.and_eq_true] at hbi
                  exact nt hbi.1 t
      · obtain ⟨fs, t1, t2, t3⟩ := PySem.W.each_katTups e fst
        refine PySem.W.kat_kind (T := PySem.W.dataType x0) t1 (by omega) (fun f hf => ?_) (beq_self_eq_true _) hq
        obtain ⟨x, r, as, m1, m2⟩ := t3 f hf
        rw [← PySem.W.dataType_alike (F.first m1 m0)]
        exact PySem.W.looks_reads m2
end
def rSortP (K : PySem.W.Frag) : List V → Hp → VK → Prop := fun vs H Q => ∃ (a : Addr) (xs : List V) (ds : List PyData), vs = [V.ref a] ∧ SqL K H a xs ∧ DpAll K H xs ds ∧ Firsts ds ∧ (∀ d ∈ ds, d.depth ≤ 60) ∧
  ∀ p : Addr, H p = none → Q (.ref p) (upd H p (.lst (sortV xs ds)))
theorem cr_sortP {X : Cx} (hu : X.A.units + 64 < cLine) : CallR X (.builtin "sorted") (rSortP X.K) := by
  intro pins s σ H vs us Q I r h
  obtain ⟨a, xs, ds, rfl, hs, hd, al, dp, q⟩ := h
  obtain ⟨its, rv, hl, hz⟩ := I.list hs
  obtain ⟨u, rfl, ru⟩ := vals1 r
  obtain rfl : u = Value.ref a := ru
  have len := dpLen hd
  have hsn : (xs.zip ds).map Prod.snd = ds := zip_snd len
  have lz : its.length = xs.length := rv.length.symm
  have er : PySem.W.EachIs (fun (v : Value) (b : V × PyData) => ∃ as, Reads s.heap v b.2 as) its (xs.zip ds) := by
    have e1 := PySem.W.each_mem (eachVals rv len)
    exact e1.mono fun v b ⟨rb, mb⟩ => Dp.reads I b.2 b.1 v (dpPairs hd b mb) rb
  have er' : PySem.W.EachIs (fun (v : Value) (b : V × PyData) => ∃ as, Reads (PySem.W.sortingHeap (PySem.W.copyHeap s.heap its) (s.heap.objs.size + 1) its) v b.2 as) its (xs.zip ds) := er.mono fun _ _ ⟨as, r⟩ => ⟨as, PyProof.Rows.Reads.keeps (fun _ _ => PySem.W.sorting_copy_old) r⟩
  have em : PySem.W.EachIs (fun (v : Value) (d : PyData) => ∃ as, Reads (PySem.W.sortingHeap (PySem.W.copyHeap s.heap its) (s.heap.objs.size + 1) its) v d as) its ds := by
    have := PySem.W.each_map (R := fun (v : Value) (d : PyData) => ∃ as, Reads (PySem.W.sortingHeap (PySem.W.copyHeap s.heap its) (s.heap.objs.size + 1) its) v d as) Prod.snd er'
    rwa [hsn] at this
  refine PySem.W.sorted_vals hl.isList (al.sorts (s := { s with heap := PySem.W.sortingHeap (PySem.W.copyHeap s.heap its) (s.heap.objs.size + 1) its }) em (fun d hd => ?_)) (by rw [lz]; exact hz) ?_
  · have := dp d hd
    show X.A.units + 2 + d.depth < cLine
    omega
  · have ks : PySem.W.EachIs (fun v d => (dataKind (PySem.W.sortingHeap (PySem.W.copyHeap s.heap its) (s.heap.objs.size + 1) its) ds).keyOf v = some (keyToks d)) its ds := (PySem.W.each_mem em).mono fun _ _ ⟨⟨_, r⟩, m⟩ => al.key m r
    have ks' : PySem.W.EachIs (fun v (b : V × PyData) => (dataKind (PySem.W.sortingHeap (PySem.W.copyHeap s.heap its) (s.heap.objs.size + 1) its) ds).keyOf v = some (keyToks b.2)) its (xs.zip ds) := PySem.W.each_of_map Prod.snd (by rw [hsn]; exact ks)
    have oe := PySem.W.sortVals_each (κ := dataKind (PySem.W.sortingHeap (PySem.W.copyHeap s.heap its) (s.heap.objs.size + 1) its) ds) (rev := false) (fun (b : V × PyData) => keyToks b.2) (eachVals rv len) ks'
    have hv : Vals (sortV xs ds) (PySem.W.sortVals (dataKind (PySem.W.sortingHeap (PySem.W.copyHeap s.heap its) (s.heap.objs.size + 1) its) ds) false its its) := valsEach oe
    obtain ⟨e, he⟩ := sortedAll_at s.heap its (List.toArray (PySem.W.sortVals (dataKind (PySem.W.sortingHeap (PySem.W.copyHeap s.heap its) (s.heap.objs.size + 1) its) ds) false its its))
    exact ⟨.ref (s.heap.objs.size + 1), upd H _ (.lst (sortV xs ds)), I.laid (t' := s.toks) (fun _ _ => sortedAll_old) (Nat.le_succ _) ⟨by rw [sortV_len len]; exact hz, _, e, hv, he⟩, rfl, q _ (I.hok.fresh (Nat.le_succ _))⟩
end SH

set_option Elab.async false
set_option linter.all false
set_option maxRecDepth 100000
namespace SH
open PySem L2
abbrev sEnds : Stmt := inClass (topS 100) 1
theorem scEnds : FnScope ["self", "path"] ["self"] (defScope sEnds) := ⟨rfl, rfl, rfl, by decide +kernel, rfl, by decide +kernel, by decide +kernel⟩
def wtD : Wt → PyData
  | .num i => .int i
  | .fut p => .tuple [.str "future", pathD p]
def rzD : Rz → PyData
  | .gives x => .tuple [.str "gives", wtD x]
  | .fails n => .tuple [.str "fails", .int n]
def endD (r : List Int × Rz) : PyData := .tuple [pathD r.1, rzD r.2]
section
variable {K : PySem.W.Frag} {H : Hp}
theorem pthDp {p : List Int} {a : Addr} (h : H a = some (.tup (p.map V.int))) : Dp K H (.ref a) (pathD p) := pathDp (SqT.of h)
theorem wtDp : ∀ {x : Wt} {v : V}, WtIn H x v → Dp K H v (wtD x)
  | .num i, _, e => by cases e; exact .int i
  | .fut p, _, ⟨a, b, e, h1, h2⟩ => by cases e; exact .tup (SqT.of h1) (.cons (.str _) (.cons (pthDp h2) .nil))
theorem rzDp : ∀ {r : Rz} {v : V}, RzIn H r v → Dp K H v (rzD r)
  | .gives x, _, ⟨a, u, e, h, k⟩ => by cases e; exact .tup (SqT.of h) (.cons (.str _) (.cons (wtDp k) .nil))
  | .fails n, _, ⟨a, e, h⟩ => by cases e; exact .tup (SqT.of h) (.cons (.str _) (.cons (.int _) .nil))
end
theorem only_wt : ∀ x : Wt, onlyT (wtD x) = true
  | .num _ => rfl
  | .fut p => by show (onlyT (.str "future") && (onlyT (pathD p) && true)) = true; rw [only_path]; rfl
theorem only_rz : ∀ r : Rz, onlyT (rzD r) = true
  | .gives x => by show (onlyT (.str "gives") && (onlyT (wtD x) && true)) = true; rw [only_wt]; rfl
  | .fails _ => rfl
theorem only_end (r : List Int × Rz) : onlyT (endD r) = true := by show (onlyT (pathD r.1) && (onlyT (rzD r.2) && true)) = true; rw [only_path, only_rz]; rfl
theorem depth_end (r : List Int × Rz) : (endD r).depth ≤ 60 := by
  obtain ⟨p, r⟩ := r
  have dp := depth_path p
  cases r with
  | fails n =>
    unfold endD rzD
    simp only [PyData.depth, PyData.depthAll, dp]
    decide
  | gives x =>
    cases x with
    | num i =>
      unfold endD rzD wtD
      simp only [PyData.depth, PyData.depthAll, dp]
      decide
    | fut q =>
      have dq := depth_path q
      unfold endD rzD wtD
      simp only [PyData.depth, PyData.depthAll, dp, dq]
      decide
theorem al_path (p q : List Int) : PySem.W.alike (pathD p) (pathD q) = true := by
  unfold pathD
  rw [PySem.W.alike]
  exact PySem.W.alike_ints p q
theorem al_wt : ∀ x : Wt, PySem.W.alike (wtD x) (wtD x) = true
  | .num _ => by unfold wtD; simp [PySem.W.alike]
  | .fut p => by unfold wtD; simp [PySem.W.alike, PySem.W.alikeAll, al_path]
theorem al_rz : ∀ r : Rz, PySem.W.alike (rzD r) (rzD r) = true
  | .gives x => by unfold rzD; simp [PySem.W.alike, PySem.W.alikeAll, al_wt]
  | .fails _ => by unfold rzD; simp [PySem.W.alike, PySem.W.alikeAll]
theorem al_end (r : List Int × Rz) : PySem.W.alike (endD r) (endD r) = true := by
  unfold endD
  simp [PySem.W.alike, PySem.W.alikeAll, al_path, al_rz]
theorem eqv_pathF {p q : List Int} (h : p ≠ q) : PyData.eqv (pathD p) (pathD q) = false := by rw [eqv_path]; exact decide_eq_false h
theorem nd_pair : ∀ {R : Rts}, (R.map Prod.fst).Nodup → ∀ r ∈ R, ∀ q ∈ R, r.1 = q.1 → r = q
  | [], _, r, h, _, _, _ => by cases h
  | a :: R, n, r, hr, q, hq, e => by
    rw [List.map_cons, List.nodup_cons] at n
    rcases List.mem_cons.mp hr with z | z
    · rcases List.mem_cons.mp hq with y | y
      · rw [z, y]
      · exact absurd (List.mem_map.mpr ⟨q, y, by rw [← e, z]⟩) n.1
    · rcases List.mem_cons.mp hq with y | y
      · exact absurd (List.mem_map.mpr ⟨r, z, by rw [e, y]⟩) n.1
      · exact nd_pair n.2 r z q y e
theorem ends_firsts {R : Rts} (nd : (R.map Prod.fst).Nodup) : Firsts (R.map endD) := by
  refine ⟨fun d hd => ?_, fun d hd e he => ?_⟩
  · obtain ⟨r, _, rfl⟩ := List.mem_map.mp hd
    exact ⟨⟨_, _, rfl⟩, al_end r⟩
  · obtain ⟨r, hr, rfl⟩ := List.mem_map.mp hd
    obtain ⟨q, hq, rfl⟩ := List.mem_map.mp he
    by_cases c : r.1 = q.1
    · exact .inl (congrArg endD (nd_pair nd r hr q hq c))
    · exact .inr ⟨_, _, _, _, rfl, rfl, al_path _ _, eqv_pathF c⟩
def spEnds (K : PySem.W.Frag) (CR : Addr) : Sp := fun vs H Q _ => ∃ (u : Addr) (n m : Int) (R : Rts), vs = [.ref u] ∧ RunIn H CR u n m R ∧ R.length ≤ 100000 ∧ (R.map Prod.fst).Nodup ∧ ∀ (l : Addr) (us : List V) (H' : Hp), Same H H' → H l = none → H' l = some (.lst us) → DpAll K H' us (sortDs (R.map endD)) → Q (.ref l) H'
theorem ResIn.at_ {H : Hp} : ∀ {R : Rts} {kvs : List (List Key × V)} {j : Nat} {k : List Key} {v : V}, ResIn H R kvs → kvs[j]? = some (k, v) → ∃ p r, R[j]? = some (p, r) ∧ k = p.map Sum.inl ∧ RzIn H r v
  | [], _, j, k, v, e, h => by cases e; cases h
  | (p, r) :: R, _, 0, k, v, ⟨u, t, e, o, z, q⟩, h => by subst e; cases h; exact ⟨p, r, rfl, rfl, z⟩
  | (p, r) :: R, _, j + 1, k, v, ⟨u, t, e, o, z, q⟩, h => by subst e; exact ResIn.at_ (j := j) q h
theorem look_nd : ∀ {R : Rts} {j : Nat} {p : List Int} {r : Rz}, (R.map Prod.fst).Nodup → R[j]? = some (p, r) → R.lookup p = some r
  | [], j, p, r, _, h => by cases h
  | (q, z) :: R, 0, p, r, _, h => by
    cases h
    rw [List.lookup_cons, beq_self_eq_true]
  | (q, z) :: R, j + 1, p, r, n, h => by
    rw [List.map_cons, List.nodup_cons] at n
    have h : R[j]? = some (p, r) := h
    rw [List.lookup_cons, beq_eq_false_iff_ne.mpr (fun e => n.1 (List.mem_map.mpr ⟨(p, r), List.mem_of_getElem? h, e⟩))]
    exact look_nd n.2 h
/-- what a run is told as -/
def toldD (z : Rz) (n m : Int) (R : Rts) : PyData := .tuple [rzD z, .int n, .int m, .list (sortDs (R.map endD))]
section
variable {P : Program} {w : World} {K : PySem.W.Frag} {mg : Str → Option Value} {base : Heap}
theorem ok_ends {f CR : Addr} {fd : FuncData} (F : Fun K "ends" "Run.ends" sEnds f fd) (RT : RnT K CR) (q_sorted : mg "sorted" = none) : FnOk P w K mg base CX0 1 f fd ["self"] (spEnds K CR) := by
  refine F.ok scEnds (fun vs H Q E h => ?_) (fun cdv A outer s H vs Q E hr h => ?_)
  · obtain ⟨u, n, m, R, rfl, _⟩ := h
    rfl
  obtain ⟨u, n, m, R, rfl, ⟨du, rd, rv, r, hu, hl0, hz, kvs, hd, hR⟩, few, nd, q⟩ := h
  refine ⟨_, (pss_one (ps_ret (pe_callB (cr_sortP hr.units) (by rfl) q_sorted (by decide +kernel) (pa_cons (pe_lock (pe_lc (own := [("path", 1)]) (g := gName 1) (tt := tYes) (by rfl) scEnds.nd (pi_keys (pe_fld (pv 0) rfl)) (blkOk_by (own := [("path", 1)]) (N := ["self", "path"]) (sc := defScope sEnds) (by decide +kernel)) (fun _ _ _ _ _ => pg_name (i := 1) scEnds.nd rfl (Or.inl rfl)) (fun _ _ _ _ _ => pts_nil) (fun _ _ _ _ _ => (pe_tup (pa_cons (pv 1) (pa_cons (pe_dget (hu_of hr) (pe_fldK K rfl (pv 0) rfl) (pv 1) (fun _ _ => rfl)) pa_nil)))))) pa_nil)))), ?_⟩
  have hs : sizeLine = 16777216 := by decide
  have lk := hR.len
  refine ⟨rd, .dT kvs, hd, trivial, fun od => ?_⟩
  have nur : u ≠ rd := fun e => by rw [e, hd] at hu; cases hu
  have kp1 : ∀ a o, a ≠ rd → H a = some o → upd H rd (.frz od (.dT kvs)) a = some o := fun a o na e => by rw [upd_ne na]; exact e
  have hf1 := upd_same (H := H) (a := rd) (o := .frz od (.dT kvs))
  generalize upd H rd (.frz od (.dT kvs)) = H1 at kp1 hf1 ⊢
  have tup1 : Tups H H1 := fun a us e => kp1 _ _ (fun z => by rw [z, hd] at e; cases e) e
  refine ⟨_, rfl, u, CR, du, _, _, rfl, kp1 _ _ nur hu, RT.cl, RT.results, rfl, rd, od, rfl, .inr ⟨kvs, hf1, ?_⟩⟩
  intro D hD
  have hDn : H D = none := by
    cases e : H D with
    | none => rfl
    | some o =>
      by_cases z : D = rd
      · rw [z, hf1] at hD; cases hD
      · rw [kp1 _ _ z e] at hD; cases hD
  refine lc_it (walk_keysT (kvs := kvs)) (fun j H' => ∃ us, H' D = some (.lst us) ∧ DpAll K H' us ((R.take j).map endD) ∧ us.length = j ∧ H' rd = some (.frz od (.dT kvs)) ∧ ∀ a o, H1 a = some o → H' a = some o) ?_ ?_ ?_ ?_
  · exact ⟨[], upd_same, .nil, rfl, same_new hD _ _ _ hf1, same_new hD _⟩
  · rintro j H' _ ⟨_, _, _, _, h, _⟩
    exact h
  · rintro j x H' H2 hj ⟨us, hDu, hdp, lu, hfz, kp⟩ ⟨rfl, k, v, b, hkv, rfl, hb⟩
    obtain ⟨p, r', hRj, rfl, hrz⟩ := hR.at_ hkv
    have lkp := look_nd nd hRj
    obtain ⟨_, v', hv', hin⟩ := (hR.look p).1 r' lkp
    have tu : Tups H H2 := fun a us e => kp _ _ (tup1 _ _ e)
    refine ⟨rfl, ?_⟩
    refine ⟨_, rfl, _, rfl, u, CR, du, _, _, rfl, kp _ _ (kp1 _ _ nur hu), RT.cl, RT.results, rfl, _, rfl, rd, v', rfl, .inr ⟨kvs, _, b, .inr ⟨od, hfz⟩, rfl, hb, hv'.symm⟩, (by show 2 ≤ sizeLine; decide), fun T nT => ?_⟩
    have s3 := same_new nT (.tup [V.ref b, v'])
    rw [kvPath] at hb
    have et : (R.take (j + 1)).map endD = (R.take j).map endD ++ [endD (p, r')] := by rw [List.take_add_one, hRj, List.map_append]; rfl
    refine ⟨us, s3 _ _ hDu, by omega, us ++ [V.ref T], upd_same, ?_, by rw [List.length_append, lu]; rfl, ?_, fun a o e => ?_⟩
    · rw [et]
      have kt : Tups H2 (upd (upd H2 T (.tup [V.ref b, v'])) D (.lst (us ++ [V.ref T]))) := fun a vs e => Tups.lst (s3 _ _ hDu) a vs (s3 _ _ e)
      have hT : upd (upd H2 T (.tup [V.ref b, v'])) D (.lst (us ++ [V.ref T])) T = some (.tup [V.ref b, v']) := by
        rw [upd_ne (fun z => by rw [z, hDu] at nT; cases nT)]; exact upd_same
      have kq : KpT K H2 (upd (upd H2 T (.tup [V.ref b, v'])) D (.lst (us ++ [V.ref T]))) := fun a xs e => (KpT.lst (s3 _ _ hDu)) a xs (Same.kpT s3 a xs e)
      refine DpAll.app (DpAll.keep kq (onlyTs_mem fun d hd => ?_) hdp) (.cons (.tup (SqT.of hT) (.cons (pthDp (kt _ _ hb)) (.cons (rzDp ((hin.tups tu).tups kt)) .nil))) .nil)
      obtain ⟨y, _, z⟩ := List.mem_map.mp hd
      rw [← z]
      exact only_end y
    · rw [upd_ne (fun z => by rw [← z, hfz] at hDu; cases hDu)]
      exact s3 _ _ hfz
    · rw [upd_ne (fun z => by rw [z, hD] at e; cases e)]
      exact s3 _ _ (kp _ _ e)
  · rintro H2 ⟨us, hDu, hdp, lu, hfz, kp⟩
    rw [lk, List.take_length] at hdp
    refine ⟨hfz, ?_⟩
    have nDr : D ≠ rd := fun e => by rw [e, hf1] at hD; cases hD
    have same : Same H (upd H2 rd (.dT kvs)) := fun a o e => by
      by_cases z : a = rd
      · rw [z, upd_same, ← hd, ← z]; exact e
      · rw [upd_ne z]; exact kp _ _ (kp1 _ _ z e)
    have hD2 : upd H2 rd (.dT kvs) D = some (.lst us) := by rw [upd_ne nDr]; exact hDu
    have kq : KpT K H2 (upd H2 rd (.dT kvs)) := fun a xs h => by
      rcases h with (e | ⟨o, e⟩) | h
      · exact .inl (.inl (by rw [upd_ne (fun z => by rw [z, hfz] at e; cases e)]; exact e))
      · exact .inl (.inr ⟨o, by rw [upd_ne (fun z => by rw [z, hfz] at e; cases e)]; exact e⟩)
      · exact .inr h
    have hdp2 := DpAll.keep kq (onlyTs_mem fun d hd => by obtain ⟨y, _, z⟩ := List.mem_map.mp hd; rw [← z]; exact only_end y) hdp
    refine ⟨D, us, R.map endD, rfl, SqL.of hD2, hdp2, ends_firsts nd, (fun d hd => ?_), fun l nl => ?_⟩
    · obtain ⟨y, _, z⟩ := List.mem_map.mp hd
      rw [← z]
      exact depth_end y
    · have s9 := same_new nl (.lst (sortV us (R.map endD)))
      refine q l _ _ (same.trans s9) (same.free nl) upd_same ?_
      have dd := sortV_dp hdp2
      refine DpAll.keep (Same.kpT s9) (onlyTs_mem fun d hd => ?_) dd
      have hd : d ∈ (R.map endD).mergeSort (PySem.W.dataLe false id) := hd
      obtain ⟨y, _, z⟩ := List.mem_map.mp (List.mem_mergeSort.mp hd)
      rw [← z]
      exact only_end y
end
end SH

set_option Elab.async false
set_option linter.all false
set_option maxRecDepth 100000
/-! list(zip(a, b)) -/
namespace SH
open PySem PySem.Spec PyProof.Rows L2
theorem zip_no_len : typeLookup (.type "zip") "__len__" = pure none := am_miss_of_fast (by decide +kernel)
theorem zip_no_hint : typeLookup (.type "zip") "__length_hint__" = pure none := am_miss_of_fast (by decide +kernel)
section
variable {prog : Program} {w : World} {A : Around} {E : Value → Shared → Prop} {s : Shared} {z TI TO i1 i2 L : Addr} {fp1 fp2 : List Addr} {n1 n2 i : Nat} {P1 P2 : Nat → Value → Prop} {St1 St2 : Nat → Heap → Prop}
/-- where the zip is, behind i draws; L the list that is filled -/
def ZAt (z TI TO i1 i2 L : Addr) (St1 St2 : Nat → Heap → Prop) (i : Nat) (h : Heap) : Prop := IsTupOf2 h TI (.ref i1) (.ref i2) ∧ St1 i h ∧ St2 i h ∧
  ((IsZip h z TI TO .none ∧ ∃ a b, IsTupOf2 h TO a b) ∨ ∃ T f oT, IsZipHeld h z TI TO T f ∧ h.get? T = some oT ∧ T ≠ z ∧ T ≠ i1 ∧ T ≠ i2 ∧ T ≠ L)
theorem zItem {Q : Option Value → Shared → Prop} (S : ZipSep2 z TI TO i1 i2 fp1 fp2) (D1 : Draws prog w A.in1 i1 fp1 n1 P1 St1) (D2 : Draws prog w A.in1 i2 fp2 n2 P2 St2) (h : ZAt z TI TO i1 i2 L St1 St2 i s.heap) (hL : L < s.heap.objs.size) (t1 : i1 < s.heap.objs.size) (t2 : i2 < s.heap.objs.size) (d1 : TI ≠ z) (d3 : TI ≠ TO) (d4 : TI ≠ i1) (d5 : TI ≠ i2) (l1 : i < n1) (l2 : i < n2)
    (k : ∀ x1 x2 h' tk, P1 i x1 → P2 i x2 → ZAt z TI TO i1 i2 L St1 St2 (i + 1) h' → IsTupOf2 h' s.heap.objs.size x1 x2 → (∀ c o, c ≠ z → c ≠ TO → c ≠ i1 → c ≠ i2 → s.heap.get? c = some o → h'.get? c = some o) → Q (some (.ref s.heap.objs.size)) { s with heap := h', toks := tk }) : wpAny (model prog w) A (pyNext (.ref z)) Q E s := by
  obtain ⟨r1, r2, r3, r4⟩ := h
  have gt : ∀ {c o}, s.heap.get? c = some o → s.heap.objs.size ≠ c := fun e => Nat.ne_of_gt (Heap.lt_size e)
  rcases r4 with ⟨z1, a, b, z2⟩ | ⟨T, f, oT, z1, z2, z3, z4, z5, z6⟩
  · refine wpAny_pyNext_zipD2_item S D1 D2 z1 r1 z2 r2 r3 l1 l2 fun x1 x2 h' tk p1 p2 b1 b2 b3 b4 b5 b6 hk => ?_
    exact k x1 x2 h' tk p1 p2 ⟨hk _ _ d1 d3 d4 d5 r1, b3, b4, .inr ⟨s.heap.objs.size, false, _, b1, b5, gt z1, Nat.ne_of_gt t1, Nat.ne_of_gt t2, Nat.ne_of_gt hL⟩⟩ b5 fun c o c1 c2 c3 c4 e => hk c o c1 c2 c3 c4 e
  · refine nextItem S D1 D2 z1 z2 r1 r2 r3 l1 l2 fun x1 x2 h' tk p1 p2 b1 b3 b4 b5 hk => ?_
    exact k x1 x2 h' tk p1 p2 ⟨hk _ _ d1 d4 d5 r1, b3, b4, .inr ⟨T, true, oT, b1, hk _ _ z3 z4 z5 z2, z3, z4, z5, z6⟩⟩ b5 fun c o c1 c2 c3 c4 e => hk c o c1 c3 c4 e
theorem zEnd {Q : Option Value → Shared → Prop} (S : ZipSep2 z TI TO i1 i2 fp1 fp2) (D1 : Draws prog w A.in1 i1 fp1 n1 P1 St1) (D2 : Draws prog w A.in1 i2 fp2 n2 P2 St2) (h : ZAt z TI TO i1 i2 L St1 St2 i s.heap) (l1 : i ≤ n1) (l2 : i ≤ n2) (fin : i = n1 ∨ i = n2)
    (k : ∀ h' tk, (∀ c o, c ≠ z → c ≠ TO → c ≠ i1 → c ≠ i2 → s.heap.get? c = some o → h'.get? c = some o) → Q none { s with heap := h', toks := tk }) : wpAny (model prog w) A (pyNext (.ref z)) Q E s := by
  obtain ⟨r1, r2, r3, r4⟩ := h
  rcases r4 with ⟨z1, a, b, z2⟩ | ⟨T, f, oT, z1, z2, z3, z4, z5, z6⟩
  · exact wpAny_pyNext_zipD2_end S D1 D2 z1 r1 z2 r2 r3 l1 l2 fin fun h' tk hk => k h' tk fun c o c1 c2 c3 c4 e => hk c o c1 c2 c3 c4 e
  · exact nextEnd S D1 D2 z1 z2 r1 r2 r3 l1 l2 fin fun h' tk hk => k h' tk fun c o c1 c2 c3 c4 e => hk c o c1 c3 c4 e
/-- the pairs that have been drawn, new tuples -/
def PrsAt (B : Nat) (P1 P2 : Nat → Value → Prop) (h : Heap) (acc : Array Value) (i : Nat) : Prop := acc.size = i ∧ (∀ (j j' : Nat) (T T' : Addr), j < j' → acc[j]? = some (.ref T) → acc[j']? = some (.ref T') → @LT.lt Nat _ T T') ∧ ∀ (j : Nat) (u : Value), acc[j]? = some u → ∃ (T : Addr) (x1 x2 : Value), u = .ref T ∧ @LE.le Nat _ B T ∧ P1 j x1 ∧ P2 j x2 ∧ IsTupOf2 h T x1 x2
theorem PrsAt.keep {B : Nat} {h h' : Heap} {acc : Array Value} (x : PrsAt B P1 P2 h acc i) (k : ∀ (b : Addr) (o : Obj), @LE.le Nat _ B b → h.get? b = some o → h'.get? b = some o) : PrsAt B P1 P2 h' acc i :=
  ⟨x.1, x.2.1, fun j u e => let ⟨T, x1, x2, a, b, c, d, q⟩ := x.2.2 j u e; ⟨T, x1, x2, a, b, c, d, k _ _ b q⟩⟩
theorem zLoop {R : Result → Shared → Prop} {B n : Nat} (S : ZipSep2 z TI TO i1 i2 fp1 fp2) (hh : A.handled = none) (D1 : ∀ A' : Around, A'.handled = none → Draws prog w A' i1 fp1 n1 P1 St1) (D2 : ∀ A' : Around, A'.handled = none → Draws prog w A' i2 fp2 n2 P2 St2) (hn : n = min n1 n2) (hz : n ≤ sizeLine)
    (bz : @LT.lt Nat _ z B) (bO : @LT.lt Nat _ TO B) (b1 : @LT.lt Nat _ i1 B) (b2 : @LT.lt Nat _ i2 B) (bL : @LT.lt Nat _ L B) (Lz : L ≠ z) (LI : L ≠ TI) (LO : L ≠ TO) (Li1 : L ≠ i1) (Li2 : L ≠ i2) (Lf1 : L ∉ fp1) (Lf2 : L ∉ fp2) (res : Value) :
    ∀ (k i : Nat) (s : Shared) (acc : Array Value) (c : Nat), n - i = k → i ≤ n → B ≤ s.heap.objs.size → ZAt z TI TO i1 i2 L St1 St2 i s.heap → s.heap.get? L = some { cls := .type "list", dict := none, data := .seq acc c, slots := #[] } → PrsAt B P1 P2 s.heap acc i →
    (∀ h' tk acc' c', (∀ b o, b ≠ z → b ≠ TO → b ≠ i1 → b ≠ i2 → b ≠ L → s.heap.get? b = some o → h'.get? b = some o) → h'.get? L = some { cls := .type "list", dict := none, data := .seq acc' c', slots := #[] } → PrsAt B P1 P2 h' acc' n → R (.ok (.ret res)) { s with heap := h', toks := tk }) →
    codeAny (model prog w) A (.builtin "list.extend.loop" ⟨[.ref L, .ref z, res], []⟩) R s := by
  have ne : ∀ {a b : Addr}, @LT.lt Nat _ a B → @LE.le Nat _ B b → b ≠ a := fun h1 h2 e => by
    rw [e] at h2
    exact absurd (Nat.lt_of_lt_of_le h1 h2) (Nat.lt_irrefl _)
  intro k
  induction k with
  | zero =>
    intro i s acc c hk hi hB hst hS hacc hR
    have hin : i = n := by omega
    subst hin
    refine codeAny_builtin F.entry_extend_loop ?_
    rw [Around.under_plainId F.plain_extend_loop _]
    show wpAny _ A.in1 (pyNext (.ref z) >>= _) _ _ s
    refine wpAny_bind (zEnd S (D1 _ hh) (D2 _ hh) hst (by omega) (by omega) (by omega) fun h' tk kp => ?_)
    refine wpAny_pure (hR h' tk acc c (fun b o c1 c2 c3 c4 _ e => kp b o c1 c2 c3 c4 e) (kp _ _ Lz LO Li1 Li2 hS) (hacc.keep fun b o hb e => kp b o (ne bz hb) (ne bO hb) (ne b1 hb) (ne b2 hb) e))
  | succ k ih =>
    intro i s acc c hk hi hB hst hS hacc hR
    have hlt : i < n := by omega
    refine codeAny_builtin F.entry_extend_loop ?_
    rw [Around.under_plainId F.plain_extend_loop _]
    show wpAny _ A.in1 (pyNext (.ref z) >>= _) _ _ s
    refine wpAny_bind (zItem S (D1 _ hh) (D2 _ hh) hst (Nat.lt_of_lt_of_le bL hB) (Nat.lt_of_lt_of_le b1 hB) (Nat.lt_of_lt_of_le b2 hB) S.TIz S.TITO S.TIi1 S.TIi2 (by omega) (by omega) fun x1 x2 h' tk p1 p2 st' hT kp => ?_)
    have hS' := kp _ _ Lz LO Li1 Li2 hS
    have nT : s.heap.objs.size ≠ L := ne bL hB
    show wpAny _ A.in1 (updateSeq L (·.push (.ref s.heap.objs.size)) >>= _) _ _ _
    refine wpAny_bind ?_
    have oth : ∀ b o, b ≠ L → h'.get? b = some o → (h'.update L (Obj.mapSeq (·.push (.ref s.heap.objs.size)))).get? b = some o := fun b o hb e => (Heap.get?_update_other _ _ (Ne.symm hb)).trans e
    have hT' := oth _ _ nT hT
    have big : B ≤ (h'.update L (Obj.mapSeq (·.push (.ref s.heap.objs.size)))).objs.size := Nat.le_trans hB (Nat.le_of_lt (Heap.lt_size hT'))
    have stF : ZAt z TI TO i1 i2 L St1 St2 (i + 1) (h'.update L (Obj.mapSeq (·.push (.ref s.heap.objs.size)))) := by
      obtain ⟨r1, r2, r3, r4⟩ := st'
      refine ⟨oth _ _ (Ne.symm LI) r1, (D1 A hh).frame _ _ _ r2 (fun b hb o e => oth b o (fun z => Lf1 (z ▸ hb)) e), (D2 A hh).frame _ _ _ r3 (fun b hb o e => oth b o (fun z => Lf2 (z ▸ hb)) e), ?_⟩
      rcases r4 with ⟨z1, a, b, z2⟩ | ⟨T, f, oT, z1, z2, z3, z4, z5, z6⟩
      · exact .inl ⟨oth _ _ (Ne.symm Lz) z1, a, b, oth _ _ (Ne.symm LO) z2⟩
      · exact .inr ⟨T, f, oT, oth _ _ (Ne.symm Lz) z1, oth _ _ z6 z2, z3, z4, z5, z6⟩
    refine wpAny_updateSeq hS' rfl (wpAny_pure ⟨plainId_quiet F.plain_extend_loop _, ih (i + 1) _ (acc.push (.ref s.heap.objs.size)) _ (by omega) hlt big stF (Heap.get?_update_self _ hS' rfl) ⟨by rw [Array.size_push, hacc.1], fun j j' T T' lj e e' => ?_, fun j u e => ?_⟩ fun h2 tk2 acc' c' kp2 hS2 hacc2 => ?_⟩)
      (by rw [hacc.1]; omega) (by show (acc.push _).size ≤ sizeLine + 1; rw [Array.size_push, hacc.1]; omega)
    · have pre : ∀ (m : Nat) (U : Addr), acc[m]? = some (.ref U) → @LT.lt Nat _ U s.heap.objs.size := fun m U em => by
        obtain ⟨V', y1, y2, a, b, c, d, q⟩ := hacc.2.2 m _ em
        cases a
        exact Heap.lt_size q
      rw [Array.getElem?_push] at e e'
      split at e'
      · rename_i ej'
        cases e'
        split at e
        · rename_i ej
          exact absurd (ej.trans ej'.symm) (Nat.ne_of_lt lj)
        · exact pre j T e
      · split at e
        · rename_i ej
          have : j' < acc.size := by
            rcases Nat.lt_or_ge j' acc.size with h | h
            · exact h
            · rw [Array.getElem?_eq_none h] at e'; cases e'
          omega
        · exact hacc.2.1 j j' T T' lj e e'
    · rw [Array.getElem?_push] at e
      split at e
      · rename_i ej
        cases e
        rw [hacc.1] at ej
        subst ej
        exact ⟨_, x1, x2, rfl, hB, p1, p2, hT'⟩
      · obtain ⟨T, y1, y2, a, b, c, d, q⟩ := hacc.2.2 j u e
        exact ⟨T, y1, y2, a, b, c, d, oth _ _ (ne bL b) (kp _ _ (ne bz b) (ne bO b) (ne b1 b) (ne b2 b) q)⟩
    · exact hR h2 tk2 acc' c' (fun b o c1 c2 c3 c4 c5 e => kp2 b o c1 c2 c3 c4 c5 (oth b o c5 (kp b o c1 c2 c3 c4 e))) hS2 hacc2
theorem zInit {R : Result → Shared → Prop} {B n : Nat} (S : ZipSep2 z TI TO i1 i2 fp1 fp2) (hh : A.handled = none) (D1 : ∀ A' : Around, A'.handled = none → Draws prog w A' i1 fp1 n1 P1 St1) (D2 : ∀ A' : Around, A'.handled = none → Draws prog w A' i2 fp2 n2 P2 St2) (hn : n = min n1 n2) (hz : n ≤ sizeLine)
    (bz : @LT.lt Nat _ z B) (bO : @LT.lt Nat _ TO B) (b1 : @LT.lt Nat _ i1 B) (b2 : @LT.lt Nat _ i2 B) (bL : @LT.lt Nat _ L B) (Lz : L ≠ z) (LI : L ≠ TI) (LO : L ≠ TO) (Li1 : L ≠ i1) (Li2 : L ≠ i2) (Lf1 : L ∉ fp1) (Lf2 : L ∉ fp2) (hB : B ≤ s.heap.objs.size)
    {a b : Value} (q1 : IsZip s.heap z TI TO .none) (q2 : IsTupOf2 s.heap TI (.ref i1) (.ref i2)) (q3 : IsTupOf2 s.heap TO a b) (q4 : St1 0 s.heap) (q5 : St2 0 s.heap) (hS : s.heap.get? L = some { cls := .type "list", data := .seq #[] })
    (hR : ∀ h' tk acc' c', (∀ b o, b ≠ z → b ≠ TO → b ≠ i1 → b ≠ i2 → b ≠ L → s.heap.get? b = some o → h'.get? b = some o) → h'.get? L = some { cls := .type "list", dict := none, data := .seq acc' c', slots := #[] } → PrsAt B P1 P2 h' acc' n → R (.ok (.ret .none)) { s with heap := h', toks := tk }) :
    wpAny (model prog w) A.in1 (Builtin.«list.__init__» ⟨[.ref L, .ref z], []⟩) (fun fin s' => match fin with | .done f => R (.ok f) s' | .again c' => c'.quiet = true ∧ codeAny (model prog w) A c' R s') (fun e s' => R (.error e) s') s := by
  show wpAny _ A.in1 (do let old ← Builtin.List.listItems (.ref L); Builtin.List.listUpdate (.ref L) (fun _ => #[]); letGo old.toList.reverse; Builtin.List.listExtendWith (.ref L) (.ref z) .none) _ _ s
  refine wpAny_bind ?_
  unfold Builtin.List.listItems
  refine wpAny_bind (wpAny_seqItems hS rfl (wpAny_pure ?_))
  show wpAny _ A.in1 (updateSeq L (fun _ => #[]) >>= fun _ => letGo (#[] : Array Value).toList.reverse >>= fun _ => Builtin.List.listExtendWith (.ref L) (.ref z) .none) _ _ s
  refine wpAny_bind (wpAny_updateSeq hS rfl ?_)
  have hS2 := Heap.get?_update_self (Obj.mapSeq (fun _ => (#[] : Array Value))) hS rfl
  have o1 : ∀ b o, b ≠ L → s.heap.get? b = some o → (s.heap.update L (Obj.mapSeq (fun _ => (#[] : Array Value)))).get? b = some o := fun b o hb e => (Heap.get?_update_other _ _ (Ne.symm hb)).trans e
  have sz : (s.heap.update L (Obj.mapSeq (fun _ => (#[] : Array Value)))).objs.size = s.heap.objs.size := Heap.size_update _ _ _
  generalize s.heap.update L (Obj.mapSeq (fun _ => (#[] : Array Value))) = h2 at hS2 o1 sz ⊢
  have ty : ({ s with heap := h2 } : Shared).TypeIs (.ref z) "zip" := ⟨_, o1 _ _ (Ne.symm Lz) q1, rfl⟩
  refine wpAny_bind (wpAny_letGo ?_)
  unfold Builtin.List.listExtendWith
  refine wpAny_bind (wpAny_typeOf ty ?_)
  have e1 : Builtin.List.listSameRef (.ref L) (.ref z) = false := by simp [Builtin.List.listSameRef, Lz]
  have e2 : (Value.type "zip" == Value.type "list") = false := by decide
  have e3 : (Value.type "zip" == Value.type "tuple") = false := by decide
  simp only [e1, e2, e3, Bool.or_false, Bool.false_eq_true, if_false]
  refine wpAny_bind (wpAny_pyIter_zip (s := { s with heap := h2 }) (o1 _ _ (Ne.symm Lz) q1) ?_)
  refine wpAny_bind (wpAny_holding ?_)
  unfold Builtin.List.listLengthHint
  refine wpAny_bind (wpAny_specialOf ty zip_no_len ?_)
  show wpAny _ A.in1 (specialOf (Value.ref z) (Str.ofString "__length_hint__") >>= _) _ _ _
  refine wpAny_bind (wpAny_specialOf ty zip_no_hint ?_)
  refine wpAny_pure ?_
  show wpAny _ A.in1 (rule "list.extend.makes-room" >>= fun _ => Builtin.List.listTouch (.ref L) >>= fun _ => again (.builtin "list.extend.loop" ⟨[.ref L, .ref z, .none], []⟩)) _ _ _
  refine wpAny_bind (wpAny_rule ?_)
  refine wpAny_bind ?_
  show wpAny _ A.in1 (updateSeq L (·.push .none) >>= fun _ => updateSeq L (·.pop)) _ _ _
  refine wpAny_bind (wpAny_updateSeq hS2 rfl ?_)
  have hS3 := Heap.get?_update_self (Obj.mapSeq (·.push Value.none)) hS2 rfl
  refine wpAny_updateSeq (hz := by seq_fits) hS3 rfl ?_
  have hS4 := Heap.get?_update_self (Obj.mapSeq (·.pop)) hS3 rfl
  have o2 : ∀ b o, b ≠ L → s.heap.get? b = some o → ((h2.update L (Obj.mapSeq (·.push Value.none))).update L (Obj.mapSeq (·.pop))).get? b = some o := fun b o hb e => (Heap.get?_update_other _ _ (Ne.symm hb)).trans ((Heap.get?_update_other _ _ (Ne.symm hb)).trans (o1 b o hb e))
  refine wpAny_pure ⟨plainId_quiet F.plain_extend_loop _, zLoop (B := B) S hh D1 D2 hn hz bz bO b1 b2 bL Lz LI LO Li1 Li2 Lf1 Lf2 _ n 0 _ _ _ rfl (Nat.zero_le _) ?_ ⟨o2 _ _ (Ne.symm LI) q2, (D1 A hh).frame _ _ _ q4 (fun b hb o e => o2 b o (fun z => Lf1 (z ▸ hb)) e), (D2 A hh).frame _ _ _ q5 (fun b hb o e => o2 b o (fun z => Lf2 (z ▸ hb)) e), .inl ⟨o2 _ _ (Ne.symm Lz) q1, a, b, o2 _ _ (Ne.symm LO) q3⟩⟩ hS4 ⟨rfl, (fun j j' T T' _ e => by simp at e), (fun j u e => by simp at e)⟩ fun h' tk acc' c' kp hS' hacc => ?_⟩
  · show B ≤ ((h2.update L _).update L _).objs.size
    rw [Heap.size_update, Heap.size_update, sz]
    exact hB
  · exact hR h' tk acc' c' (fun b o c1 c2 c3 c4 c5 e => kp b o c1 c2 c3 c4 c5 (o2 b o c5 e)) hS' hacc
theorem callListZip {Q : Value → Shared → Prop} {n : Nat} {a b : Value} (S : ZipSep2 z TI TO i1 i2 fp1 fp2) (hh : A.handled = none) (D1 : ∀ A' : Around, A'.handled = none → Draws prog w A' i1 fp1 n1 P1 St1) (D2 : ∀ A' : Around, A'.handled = none → Draws prog w A' i2 fp2 n2 P2 St2) (hn : n = min n1 n2) (hz : n ≤ sizeLine)
    (f1 : ∀ b ∈ fp1, @LT.lt Nat _ b s.heap.objs.size) (f2 : ∀ b ∈ fp2, @LT.lt Nat _ b s.heap.objs.size) (q1 : IsZip s.heap z TI TO .none) (q2 : IsTupOf2 s.heap TI (.ref i1) (.ref i2)) (q3 : IsTupOf2 s.heap TO a b) (q4 : St1 0 s.heap) (q5 : St2 0 s.heap)
    (hQ : ∀ h' tk acc' c', (∀ b o, b ≠ z → b ≠ TO → b ≠ i1 → b ≠ i2 → s.heap.get? b = some o → h'.get? b = some o) → h'.get? s.heap.objs.size = some { cls := .type "list", dict := none, data := .seq acc' c', slots := #[] } → PrsAt (s.heap.objs.size + 1) P1 P2 h' acc' n → Q (.ref s.heap.objs.size) { s with heap := h', toks := tk }) :
    wpAny (model prog w) A (call (.type "list") [.ref z]) Q E s := by
  have lt : ∀ {c : Addr} {o : Obj}, s.heap.get? c = some o → @LT.lt Nat _ c s.heap.objs.size := fun e => Heap.lt_size e
  have ne : ∀ {c : Addr}, @LT.lt Nat _ c s.heap.objs.size → s.heap.objs.size ≠ c := fun h => Nat.ne_of_gt h
  have t1 := f1 _ S.mem1
  have t2 := f2 _ S.mem2
  refine callType_codes (Q₁ := fun obj s₁ => obj = .ref s.heap.objs.size ∧ s₁ = { s with heap := s.heap.push { cls := .type "list", data := .seq #[] } }) F.called_list (F.typeCall_list_1 _) F.entry_list_init (code_list_new _ ⟨rfl, rfl⟩) fun obj s₁ h₁ => ?_
  obtain ⟨rfl, rfl⟩ := h₁
  have hS : (s.heap.push { cls := .type "list", data := .seq #[] }).get? s.heap.objs.size = some { cls := .type "list", data := .seq #[] } := Heap.get?_push_size _ rfl
  have up : ∀ b o, s.heap.get? b = some o → (s.heap.push { cls := .type "list", data := .seq #[] }).get? b = some o := fun b o e => Heap.get?_push_of_some _ e
  refine ⟨⟨_, hS, rfl⟩, F.args_list_init_2 _ _, zInit (B := s.heap.objs.size + 1) S hh D1 D2 hn hz (Nat.lt_succ_of_lt (lt q1)) (Nat.lt_succ_of_lt (lt q3)) (Nat.lt_succ_of_lt t1) (Nat.lt_succ_of_lt t2) (Nat.lt_succ_self _) (ne (lt q1)) (ne (lt q2)) (ne (lt q3)) (ne t1) (ne t2) (fun hm => Nat.lt_irrefl _ (f1 _ hm)) (fun hm => Nat.lt_irrefl _ (f2 _ hm)) (by rw [Heap.size_push]; exact Nat.le_refl _) (up _ _ q1) (up _ _ q2) (up _ _ q3) ((D1 A hh).frame _ _ _ q4 (fun b hb o e => up b o e)) ((D2 A hh).frame _ _ _ q5 (fun b hb o e => up b o e)) hS fun h' tk acc' c' kp hS' hacc => ?_⟩
  exact ⟨rfl, hQ h' tk acc' c' (fun b o c1 c2 c3 c4 e => kp b o c1 c2 c3 c4 (fun x => Nat.lt_irrefl _ (x ▸ lt e)) (up b o e)) hS' hacc⟩
end
/-! ### in the hand layer -/
def updAll (H : Hp) : List (Addr × HO) → Hp
  | [] => H
  | (a, o) :: r => upd (updAll H r) a o
theorem updAll_ne {H : Hp} : ∀ {As : List (Addr × HO)} {b : Addr}, b ∉ As.map Prod.fst → updAll H As b = H b
  | [], _, _ => rfl
  | (a, o) :: r, b, h => by
    rw [List.map_cons, List.mem_cons, not_or] at h
    show upd (updAll H r) a o b = H b
    rw [upd_ne h.1, updAll_ne h.2]
theorem updAll_at {H : Hp} : ∀ {As : List (Addr × HO)} {p : Addr × HO}, (As.map Prod.fst).Nodup → p ∈ As → updAll H As p.1 = some p.2
  | (a, o) :: r, p, n, h => by
    rw [List.map_cons, List.nodup_cons] at n
    show upd (updAll H r) a o p.1 = some p.2
    rcases List.mem_cons.mp h with e | e
    · rw [e]; exact upd_same
    · rw [upd_ne (fun z => n.1 (List.mem_map.mpr ⟨p, e, z⟩))]
      exact updAll_at n.2 e
section
variable {X : Cx} {pins : List (Addr × Obj)} {σ : L2.St} {H : Hp} {s : Shared} {h' : Heap} {tk : Nat}
theorem layAll (I : Inv X pins σ H s) (up : ∀ b u, s.heap.get? b = some u → h'.get? b = some u) : ∀ As : List (Addr × HO), (As.map Prod.fst).Nodup → (∀ p ∈ As, @LE.le Nat _ s.heap.objs.size p.1 ∧ ∀ (H2 : Hp) (g : Heap), g.get? p.1 = h'.get? p.1 → ObjOk X.prog X.w H2 g p.1 p.2) →
    ∃ G : Heap, (∀ b u, s.heap.get? b = some u → G.get? b = some u) ∧ (∀ b u, G.get? b = some u → h'.get? b = some u) ∧ (∀ b, s.heap.get? b = none → b ∉ As.map Prod.fst → G.get? b = none) ∧ Inv X pins σ (updAll H As) { s with heap := G, toks := tk }
  | [], _, _ => ⟨s.heap, fun _ _ e => e, up, fun _ e _ => e, I.tok tk⟩
  | (a, o) :: r, n, h => by
    rw [List.map_cons, List.nodup_cons] at n
    obtain ⟨G, g1, g2, g3, J⟩ := layAll I up r n.2 fun p hp => h p (List.mem_cons_of_mem _ hp)
    obtain ⟨lo, new⟩ := h (a, o) List.mem_cons_self
    have sa : s.heap.get? a = none := by
      cases e : s.heap.get? a with
      | none => rfl
      | some u => exact absurd (Heap.lt_size e) (Nat.not_lt.mpr lo)
    obtain ⟨G', k1, k2⟩ := restrict h' fun b => (G.get? b).isSome || decide (b = a)
    have kG : ∀ b u, G.get? b = some u → G'.get? b = some u := fun b u e => (k1 b (by simp [e])).trans (g2 b u e)
    have ha : G'.get? a = h'.get? a := k1 a (by simp)
    refine ⟨G', fun b u e => kG b u (g1 b u e), fun b u e => ?_, fun b e nb => ?_, Inv.laidN (s := { s with heap := G, toks := tk }) (t' := tk) J kG (g3 a sa n.1) ?_ (new _ _ ha)⟩
    · cases q : ((G.get? b).isSome || decide (b = a)) with
      | false => rw [k2 b q] at e; cases e
      | true => rw [← k1 b q]; exact e
    · rw [List.map_cons, List.mem_cons, not_or] at nb
      refine k2 b ?_
      rw [g3 b e nb.2]
      simp [nb.1]
    · rw [updAll_ne n.1]
      exact I.hok.fresh lo
theorem layAll' (I : Inv X pins σ H s) (up : ∀ b u, s.heap.get? b = some u → h'.get? b = some u) (As : List (Addr × HO)) (n : (As.map Prod.fst).Nodup) (h : ∀ p ∈ As, @LE.le Nat _ s.heap.objs.size p.1 ∧ ∀ (H2 : Hp) (g : Heap), g.get? p.1 = h'.get? p.1 → ObjOk X.prog X.w H2 g p.1 p.2) : Inv X pins σ (updAll H As) { s with heap := h', toks := tk } := by
  obtain ⟨G, _, g2, _, J⟩ := layAll (tk := tk) I up As n h
  exact Inv.kept (s := { s with heap := G, toks := tk }) (t' := tk) J g2
/-- list(zip(a, b)): a a list or a tuple, b a list -/
def tListZip (K : PySem.W.Frag) (ta : TA) : TE := fun σ H Q => ta σ H fun vs H1 => ∃ (t l : Addr) (us ws : List V), vs = [.ref t, .ref l] ∧ (SqL K H1 t us ∨ SqT K H1 t us) ∧ SqL K H1 l ws ∧ us.length ≤ 1000 ∧ ws.length ≤ 1000 ∧
  ∀ (L : Addr) (Ts : List Addr) (H' : Hp), Same H1 H' → H1 L = none → H' L = some (.lst (Ts.map V.ref)) → Ts.length = min us.length ws.length → (∀ (j : Nat) (T : Addr), Ts[j]? = some T → ∃ u w, us[j]? = some u ∧ ws[j]? = some w ∧ H1 T = none ∧ H' T = some (.tup [u, w])) → Q (.ref L) H'
theorem same_all {H : Hp} {As : List (Addr × HO)} (h : ∀ p ∈ As, H p.1 = none) : Same H (updAll H As) := fun b o e => by
  rw [updAll_ne (fun m => ?_)]
  · exact e
  · obtain ⟨p, hp, q⟩ := List.mem_map.mp m
    rw [← q, h p hp] at e
    cases e
theorem allRefs : ∀ {l : List Value}, (∀ u ∈ l, ∃ T, u = Value.ref T) → ∃ Ts : List Addr, l = Ts.map Value.ref
  | [], _ => ⟨[], rfl⟩
  | u :: l, h => by
    obtain ⟨T, rfl⟩ := h u List.mem_cons_self
    obtain ⟨Ts, e⟩ := allRefs fun v hv => h v (List.mem_cons_of_mem _ hv)
    exact ⟨T :: Ts, by rw [e]; rfl⟩
theorem valsGet {xs : List V} {its : List Value} (r : Vals xs its) {j : Nat} {u : Value} (h : its[j]? = some u) : ∃ x, xs[j]? = some x ∧ RelV x u := by
  induction r generalizing j with
  | nil => cases h
  | cons r t ih =>
    cases j with
    | zero => cases h; exact ⟨_, rfl, r⟩
    | succ j => exact ih h
theorem zipFin {Q : VK} {its its2 : List Value} {xs ws : List V} {h2 : Heap} {z TI TO i1 i2 : Addr} {fp1 fp2 : List Addr} {St1 St2 : Nat → Heap → Prop} {a b : Value} (I : Inv X pins σ H s) (quiet : X.calm = true) (rv : Vals xs its) (rv2 : Vals ws its2) (S : ZipSep2 z TI TO i1 i2 fp1 fp2)
    (D1 : ∀ A' : Around, A'.handled = none → Draws X.prog X.w A' i1 fp1 its.length (fun i v => its[i]? = some v) St1) (D2 : ∀ A' : Around, A'.handled = none → Draws X.prog X.w A' i2 fp2 its2.length (fun i v => its2[i]? = some v) St2) (few : xs.length ≤ 1000)
    (f1 : ∀ b ∈ fp1, @LT.lt Nat _ b h2.objs.size) (f2 : ∀ b ∈ fp2, @LT.lt Nat _ b h2.objs.size) (q1 : IsZip h2 z TI TO .none) (q2 : IsTupOf2 h2 TI (.ref i1) (.ref i2)) (q3 : IsTupOf2 h2 TO a b) (q4 : St1 0 h2) (q5 : St2 0 h2)
    (hk : ∀ b o, s.heap.get? b = some o → h2.get? b = some o) (gz : @LE.le Nat _ s.heap.objs.size z) (gO : @LE.le Nat _ s.heap.objs.size TO) (g1 : @LE.le Nat _ s.heap.objs.size i1) (g2 : @LE.le Nat _ s.heap.objs.size i2) (big : s.heap.objs.size ≤ h2.objs.size)
    (fin : ∀ (L : Addr) (Ts : List Addr) (H' : Hp), Same H H' → H L = none → H' L = some (.lst (Ts.map V.ref)) → Ts.length = min xs.length ws.length → (∀ (j : Nat) (T : Addr), Ts[j]? = some T → ∃ u w, xs[j]? = some u ∧ ws[j]? = some w ∧ H T = none ∧ H' T = some (.tup [u, w])) → Q (.ref L) H') :
    wpAny (model X.prog X.w) X.A (call (.type "list") [.ref z]) (EP X pins σ Q) X.xe { s with heap := h2, toks := tk } := by
  have n1 := rv.length
  have n2 := rv2.length
  have hs : sizeLine = 16777216 := by decide
  refine callListZip (s := { s with heap := h2, toks := tk }) (n := min its.length its2.length) S (I.ok.hd quiet) D1 D2 rfl (by omega) f1 f2 q1 q2 q3 q4 q5 fun h' tk' acc c kp hL hP => ?_
  obtain ⟨sz, inc, el⟩ := hP
  have up : ∀ b u, s.heap.get? b = some u → h'.get? b = some u := fun b u e => by
    have lt := Heap.lt_size e
    exact kp b u (fun x => by rw [x] at lt; exact absurd (Nat.lt_of_lt_of_le lt gz) (Nat.lt_irrefl _)) (fun x => by rw [x] at lt; exact absurd (Nat.lt_of_lt_of_le lt gO) (Nat.lt_irrefl _)) (fun x => by rw [x] at lt; exact absurd (Nat.lt_of_lt_of_le lt g1) (Nat.lt_irrefl _)) (fun x => by rw [x] at lt; exact absurd (Nat.lt_of_lt_of_le lt g2) (Nat.lt_irrefl _)) (hk b u e)
  obtain ⟨Ts, eT⟩ := allRefs (l := acc.toList) fun u hu => by
    obtain ⟨j, hj⟩ := List.mem_iff_getElem?.mp hu
    rw [Array.getElem?_toList] at hj
    obtain ⟨T, _, _, e, _⟩ := el j u hj
    exact ⟨T, e⟩
  have atT : ∀ {j : Nat} {T : Addr}, Ts[j]? = some T → acc[j]? = some (.ref T) := fun {j T} e => by
    rw [← Array.getElem?_toList, eT, List.getElem?_map, e]
    rfl
  have lT : Ts.length = min xs.length ws.length := by
    have : acc.toList.length = Ts.length := by rw [eT, List.length_map]
    rw [Array.length_toList] at this
    omega
  have ndT : Ts.Nodup := by
    refine List.pairwise_iff_getElem.mpr fun j j' hj hj' lj e => ?_
    have := inc j j' Ts[j] Ts[j'] lj (atT (List.getElem?_eq_getElem hj)) (atT (List.getElem?_eq_getElem hj'))
    rw [e] at this
    exact Nat.lt_irrefl _ this
  have info : ∀ {j : Nat} {T : Addr}, Ts[j]? = some T → ∃ u w y1 y2, xs[j]? = some u ∧ ws[j]? = some w ∧ RelV u y1 ∧ RelV w y2 ∧ IsTupOf2 h' T y1 y2 ∧ @LE.le Nat _ (h2.objs.size + 1) T := fun {j T} e => by
    obtain ⟨T', y1, y2, e1, lo, p1, p2, q⟩ := el j _ (atT e)
    cases e1
    obtain ⟨u, hu, ru⟩ := valsGet rv p1
    obtain ⟨w, hw, rw_⟩ := valsGet rv2 p2
    exact ⟨u, w, y1, y2, hu, hw, ru, rw_, q, lo⟩
  have mem : ∀ {p : Addr × HO}, p ∈ (Ts.zip (xs.zip ws)).map (fun q => (q.1, HO.tup [q.2.1, q.2.2])) → ∃ j u w, Ts[j]? = some p.1 ∧ xs[j]? = some u ∧ ws[j]? = some w ∧ p.2 = .tup [u, w] := fun {p} hp => by
    obtain ⟨⟨T, u, w⟩, hq, rfl⟩ := List.mem_map.mp hp
    obtain ⟨j, hj⟩ := List.mem_iff_getElem?.mp hq
    obtain ⟨a1, a2⟩ := List.getElem?_zip_eq_some.mp hj
    obtain ⟨a3, a4⟩ := List.getElem?_zip_eq_some.mp a2
    exact ⟨j, u, w, a1, a3, a4, rfl⟩
  have fstT : ((Ts.zip (xs.zip ws)).map (fun q => (q.1, HO.tup [q.2.1, q.2.2]))).map Prod.fst = Ts := by
    rw [List.map_map]
    show (Ts.zip (xs.zip ws)).map Prod.fst = Ts
    rw [List.map_fst_zip (by rw [List.length_zip]; omega)]
  generalize hAs : (Ts.zip (xs.zip ws)).map (fun q => (q.1, HO.tup [q.2.1, q.2.2])) = As at mem fstT
  have ndA : (((h2.objs.size, HO.lst (Ts.map V.ref)) :: As).map Prod.fst).Nodup := by
    rw [List.map_cons, fstT, List.nodup_cons]
    refine ⟨fun m => ?_, ndT⟩
    obtain ⟨j, hj⟩ := List.mem_iff_getElem?.mp m
    obtain ⟨_, _, _, _, _, _, _, _, _, lo⟩ := info hj
    exact absurd lo (Nat.not_succ_le_self _)
  have J := layAll' (tk := tk') I up ((h2.objs.size, HO.lst (Ts.map V.ref)) :: As) ndA (fun p hp => ?_)
  · have hn : ∀ p ∈ (h2.objs.size, HO.lst (Ts.map V.ref)) :: As, H p.1 = none := fun p hp => by
      rcases List.mem_cons.mp hp with e | e
      · rw [e]; exact I.hok.fresh big
      · obtain ⟨j, u, w, hj, _⟩ := mem e
        obtain ⟨_, _, _, _, _, _, _, _, _, lo⟩ := info hj
        exact I.hok.fresh (Nat.le_trans big (Nat.le_of_succ_le lo))
    refine ⟨.ref h2.objs.size, _, J, rfl, fin h2.objs.size Ts _ (same_all hn) (hn _ List.mem_cons_self) (updAll_at ndA List.mem_cons_self) lT fun j T hj => ?_⟩
    obtain ⟨u, w, y1, y2, hu, hw, _⟩ := info hj
    have hz : (Ts.zip (xs.zip ws))[j]? = some (T, u, w) := List.getElem?_zip_eq_some.mpr ⟨hj, List.getElem?_zip_eq_some.mpr ⟨hu, hw⟩⟩
    have hm : (T, HO.tup [u, w]) ∈ (h2.objs.size, HO.lst (Ts.map V.ref)) :: As := List.mem_cons_of_mem _ (by rw [← hAs]; exact List.mem_map.mpr ⟨_, List.mem_of_getElem? hz, rfl⟩)
    exact ⟨u, w, hu, hw, hn _ hm, updAll_at ndA hm⟩
  · rcases List.mem_cons.mp hp with e | e
    · subst e
      refine ⟨big, fun H2 g eg => ⟨by rw [List.length_map]; omega, acc.toList, c, by rw [eT]; exact vals_refs Ts, ?_⟩⟩
      rw [eg]
      exact hL
    · obtain ⟨j, u, w, hj, hu, hw, e2⟩ := mem e
      obtain ⟨u', w', y1, y2, hu', hw', ru, rw_, q, lo⟩ := info hj
      rw [hu] at hu'
      cases hu'
      rw [hw] at hw'
      cases hw'
      refine ⟨Nat.le_trans big (Nat.le_of_succ_le lo), fun H2 g eg => ?_⟩
      rw [e2]
      refine ⟨by show 2 ≤ sizeLine; decide, [y1, y2], .cons ru (.cons rw_ .nil), ⟨_, eg.trans q, rfl, _, rfl⟩⟩
theorem pe_listZip {a b : Expr} {ta : TA} {p p2 q pos : Pos} (hg : Gl X "list") (md : X.mg "list" = none) (hg2 : Gl X "zip") (mz : X.mg "zip" = none) (ha : PA X [a, b] ta) (quiet : X.calm = true := by rfl)
    (he : starEach [a, b] X.env = (false, eval a X.env) :: starEach [b] X.env := by rfl) (hpl : (backTo q (starEach [b] X.env)).any (·.1) = false := by rfl) : PE X (.Call (.Name "list" p) [.Call (.Name "zip" p2) [a, b] [] q] [] pos) (tListZip X.K ta) := by
  refine ⟨fun pins s σ H Q I h => Call_ (ld_blt I hg md boot_list (callWith_type1 (args_cons (Call_ (ld_blt I hg2 mz boot_zip ?_)) rfl) rfl rfl))⟩
  refine callWith_type1 (thn (ha.run q pins s σ H _ I h) fun us s1 ⟨vs, H1, I1, r1, t, l, xs, ws, e, ht, hl, l1, l2, fin⟩ => ?_) he hpl
  subst e
  obtain ⟨u1, u2, rfl, ru1, ru2⟩ := vals2 r1
  obtain rfl : u1 = Value.ref t := ru1
  obtain rfl : u2 = Value.ref l := ru2
  obtain ⟨its2, rv2, lis, _⟩ := I1.list hl
  have ap : ∀ {a b : Nat}, a < b ∨ b < a → (a : Addr) ≠ (b : Addr) := fun h e => by
    have e' : _ = _ := e
    rcases h with h | h <;> (rw [e'] at h; exact Nat.lt_irrefl _ h)
  have lt2 : @LT.lt Nat _ l s1.heap.objs.size := by obtain ⟨_, e, _⟩ := lis.isList; exact Heap.lt_size e
  have sep : @LT.lt Nat _ t s1.heap.objs.size → ZipSep2 (s1.heap.objs.size + 4) (s1.heap.objs.size + 2) (s1.heap.objs.size + 3) s1.heap.objs.size (s1.heap.objs.size + 1) [s1.heap.objs.size, t] [s1.heap.objs.size + 1, l] := fun lt1 => by
    refine ⟨ap (by omega), ap (by omega), ap (by omega), ap (by omega), by simp, ?_, ?_, ap (by omega), by simp, ?_, ?_, ?_, ?_⟩
    all_goals
      intro m
      simp only [List.mem_cons, List.not_mem_nil, or_false] at m
      rcases m with m | m <;> exact absurd m (ap (by omega))
  have le : ∀ k : Nat, @LE.le Nat _ s1.heap.objs.size (s1.heap.objs.size + k) := fun k => Nat.le_add_right _ _
  have D2 : ∀ A' : Around, A'.handled = none → Draws X.prog X.w A' (s1.heap.objs.size + 1) [s1.heap.objs.size + 1, l] its2.length (fun i v => its2[i]? = some v) (fun i h => h.IsListIter (s1.heap.objs.size + 1) l i ∧ h.IsList l its2.toArray) := fun A' hA => by
    have := Draws.list (prog := X.prog) (w := X.w) (A := A') hA (s1.heap.objs.size + 1) l (ap (by omega)) its2.toArray
    simp only [List.size_toArray, List.getElem?_toArray] at this
    exact this
  rcases ht with ht | ht
  · obtain ⟨its, rv, lis1, _⟩ := I1.list ht
    have lt1 : @LT.lt Nat _ t s1.heap.objs.size := by obtain ⟨_, e, _⟩ := lis1.isList; exact Heap.lt_size e
    refine zip_begins2 (begins_list t its.toArray) (begins_list l its2.toArray) lis1.isList lis.isList fun h' z1 z2 z3 z4 z5 z6 hk => args_nil ?_
    have D1 : ∀ A' : Around, A'.handled = none → Draws X.prog X.w A' s1.heap.objs.size [s1.heap.objs.size, t] its.length (fun i v => its[i]? = some v) (fun i h => h.IsListIter s1.heap.objs.size t i ∧ h.IsList t its.toArray) := fun A' hA => by
      have := Draws.list (prog := X.prog) (w := X.w) (A := A') hA s1.heap.objs.size t (ap (by omega)) its.toArray
      simp only [List.size_toArray, List.getElem?_toArray] at this
      exact this
    refine zipFin (a := _) (b := _) I1 quiet rv rv2 (sep lt1) D1 D2 l1 (fun b m => ?_) (fun b m => ?_) z1 z2 z3 ⟨⟨_, z4, rfl, rfl⟩, lis1.isList.at fun o e => hk _ o e⟩ ⟨⟨_, z5, rfl, rfl⟩, lis.isList.at fun o e => hk _ o e⟩ hk (le 4) (le 3) (le 0) (le 1) (by rw [z6]; exact le 5) fin
    all_goals
      rw [z6]
      simp only [List.mem_cons, List.not_mem_nil, or_false] at m
      rcases m with rfl | rfl <;> omega
  · obtain ⟨its, rv, tup, _⟩ := I1.tuple ht
    have lt1 : @LT.lt Nat _ t s1.heap.objs.size := by obtain ⟨_, e, _⟩ := tup; exact Heap.lt_size e
    have tupT : s1.heap.IsTuple t its.toArray := tup
    refine zip_begins2 (begins_tuple t its.toArray) (begins_list l its2.toArray) tup lis.isList fun h' z1 z2 z3 z4 z5 z6 hk => args_nil ?_
    have D1 : ∀ A' : Around, A'.handled = none → Draws X.prog X.w A' s1.heap.objs.size [s1.heap.objs.size, t] its.length (fun i v => its[i]? = some v) (fun i h => h.IsTupleIter s1.heap.objs.size t i ∧ h.IsTuple t its.toArray) := fun A' hA => by
      have := Draws.tuple (prog := X.prog) (w := X.w) (A := A') hA s1.heap.objs.size t (ap (by omega)) its.toArray
      simp only [List.size_toArray, List.getElem?_toArray] at this
      exact this
    refine zipFin (a := _) (b := _) I1 quiet rv rv2 (sep lt1) D1 D2 l1 (fun b m => ?_) (fun b m => ?_) z1 z2 z3 ⟨⟨_, z4, rfl, rfl⟩, tupT.at fun o e => hk _ o e⟩ ⟨⟨_, z5, rfl, rfl⟩, lis.isList.at fun o e => hk _ o e⟩ hk (le 4) (le 3) (le 0) (le 1) (by rw [z6]; exact le 5) fin
    all_goals
      rw [z6]
      simp only [List.mem_cons, List.not_mem_nil, or_false] at m
      rcases m with rfl | rfl <;> omega
end
end SH

set_option Elab.async false
set_option linter.all false
set_option maxRecDepth 100000
namespace SH
open PySem L2
abbrev sValue : Stmt := topS 113
theorem scValue : FnScope ["_law_tree_here", "_law_held", "_law_some", "_law_word", "_law_number_here", "_law_one", "_law_other", "_law_found"] ["_law_tree_here", "_law_held"] (defScope sValue) := ⟨rfl, rfl, rfl, by decide +kernel, rfl, by decide +kernel, by decide +kernel⟩
theorem valNone {kvs : List (Key × V)} {k : Key} (h : ∀ p ∈ kvs, p.1 ≠ k) : valV kvs k = none := by
  unfold valV
  rw [List.find?_eq_none.mpr (fun p hp => by simpa using h p hp)]
  rfl
theorem mergeNd : ∀ {more kvs : List (Key × V)}, ((kvs ++ more).map Prod.fst).Nodup → mergeK kvs more = kvs ++ more
  | [], kvs, _ => (List.append_nil kvs).symm
  | (k, v) :: more, kvs, n => by
    have hk : ∀ p ∈ kvs, p.1 ≠ k := fun p hp e => by
      rw [List.map_append, List.map_cons] at n
      exact (List.nodup_append.mp n).2.2 p.1 (List.mem_map.mpr ⟨p, hp, rfl⟩) k List.mem_cons_self e
    show mergeK (putK kvs k v) more = kvs ++ (k, v) :: more
    rw [putK_new v (valNone hk), mergeNd (by rw [List.append_assoc]; exact n), List.append_assoc]
    rfl
theorem pairedOf {α β : Type} {G : α → β → Prop} : ∀ {xs : List α} {ys : List β}, xs.length = ys.length → (∀ (j : Nat) (x : α) (y : β), xs[j]? = some x → ys[j]? = some y → G x y) → Paired G xs ys
  | [], [], _, _ => .nil
  | x :: xs, y :: ys, h, k => .cons (k 0 x y rfl rfl) (pairedOf (Nat.succ.inj h) fun j a b e1 e2 => k (j + 1) a b e1 e2)
/-- how the law tells what an expression comes to -/
def ToldAt (H : Hp) (p : Addr) : Except Int Wt → Prop
  | .ok x => ∃ v, WtIn H x v ∧ H p = some (.tup [.str "ok", v])
  | .error n => H p = some (.tup [.str "bad", .int n])
theorem ToldAt.same {H H' : Hp} (h : Same H H') {p : Addr} : ∀ {r : Except Int Wt}, ToldAt H p r → ToldAt H' p r
  | .ok _, ⟨v, h1, h2⟩ => ⟨v, h1.same h, h _ _ h2⟩
  | .error _, h1 => h _ _ h1
def spValue (n : Nat) : Sp := fun vs H Q _ => ∃ (v : V) (d : Addr) (e : Ex) (env : Str → Option Wt), vs = [v, .ref d] ∧ TrIn H e v ∧ Ex.low n e ∧ EnvIn H d env ∧ ∀ p H', Same H H' → ToldAt H' p (e.ev env) → Q (.ref p) H'
theorem dInt (i j : Int) : decide (V.int i = V.int j) = decide (i = j) := by
  by_cases e : i = j
  · rw [decide_eq_true e, decide_eq_true (congrArg V.int e)]
  · rw [decide_eq_false e, decide_eq_false (fun z => e (V.int.inj z))]
section
variable {P : Program} {w : World} {K : PySem.W.Frag} {mg : Str → Option Value} {base : Heap}
theorem ok_value {n : Nat} {f : Addr} {fd : FuncData} (F : Fun K "_law_value" "_law_value" sValue f fd) (VA : Fk P w K mg base n "_law_value" f fd ["_law_tree_here", "_law_held"] (spValue n)) (T : Bi mg) (mt : mg "tuple" = none) :
    FnOk P w K mg base CX0 (n + 1) f fd ["_law_tree_here", "_law_held"] (spValue (n + 1)) := by
  refine F.ok scValue (fun vs H Q E h => ?_) (fun cdv A outer s H vs Q E hr h => ?_)
  · obtain ⟨v, d, e, env, rfl, _⟩ := h
    rfl
  obtain ⟨v, d, e, env, rfl, hT, ho, hE, q⟩ := h
  refine ⟨_, (pss_cons (ps_if (pt_cmpR op_eq (pe_ix ix_tup (pv 0) pe_int (fun _ _ => rfl)) pe_str (nomark _))
      (pss_one (ps_ret (pe_tup (pa_cons pe_str (pa_cons (pe_ix ix_tup (pv 0) pe_int (fun _ _ => rfl)) pa_nil)))))
      pss_nil)
    (pss_cons (ps_if (pt_cmpR op_eq (pe_ix ix_tup (pv 0) pe_int (fun _ _ => rfl)) pe_str (nomark _))
      (pss_one (ps_ret (pe_ifExp (pt_cmp (pc_din (hu_of hr) (pe_ix ix_tup (pv 0) pe_int (fun _ _ => rfl)) (pv 1))) (pe_tup (pa_cons pe_str (pa_cons (pe_dget (hu_of hr) (pv 1) (pe_ix ix_tup (pv 0) pe_int (fun _ _ => rfl)) (fun _ _ => rfl)) pa_nil))) (pe_tup (pa_cons pe_str (pa_cons (pe_un un_neg pe_int) pa_nil))))))
      pss_nil)
    (pss_cons (ps_set (i := 2) scValue.nd rfl (Or.inl rfl) (pe_lst (pa_cons (pe_call VA.G (hr.mono (by omega)) (by rfl) VA.m VA.k VA.b .nil pass0 (pa_cons (pe_ix ix_tup (pv 0) pe_int (fun _ _ => rfl)) (pa_cons (pv 1) pa_nil))) (pa_cons (pe_call VA.G (hr.mono (by omega)) (by rfl) VA.m VA.k VA.b .nil pass0 (pa_cons (pe_ix ix_tup (pv 0) pe_int (fun _ _ => rfl)) (pa_cons (pv 1) pa_nil))) pa_nil))))
    (pss_cons (ps_for PassesOwn.never rfl (pi_list (pv 2)) (pg_tup rfl (pgs_cons (pg_name (i := 3) scValue.nd rfl (.inl rfl)) (pgs_cons (pg_name (i := 4) scValue.nd rfl (.inl rfl)) pgs_nil)))
      (pss_one (ps_if (pt_cmpR op_eq (pv 3) pe_str (nomark _))
      (pss_one (ps_ret (pe_tup (pa_cons pe_str (pa_cons (pv 4) pa_nil)))))
      pss_nil)))
    (pss_cons (ps_par (i := 5) (j := 6) rfl scValue.nd rfl rfl (by decide) rfl rfl (pa_cons (pe_ix ix_tup (pe_ix ix_list (pv 2) pe_int (fun _ _ => rfl)) pe_int (fun _ _ => rfl)) (pa_cons (pe_ix ix_tup (pe_ix ix_list (pv 2) pe_int (fun _ _ => rfl)) pe_int (fun _ _ => rfl)) pa_nil)) (by rfl))
    (pss_cons (ps_if (PW.pt (pw_or (pt_val (pe_callB call_isi (by rfl) T.isinstance (by decide +kernel) (pa_cons (pv 5) (pa_cons (pe_bltn (v := .ty "tuple") (by rfl) mt (by decide +kernel) rfl) pa_nil)))) (pw_or1 (pt_val (pe_callB call_isi (by rfl) T.isinstance (by decide +kernel) (pa_cons (pv 6) (pa_cons (pe_bltn (v := .ty "tuple") (by rfl) mt (by decide +kernel) rfl) pa_nil)))))))
      (pss_one (ps_ret (pe_tup (pa_cons pe_str (pa_cons (pe_un un_neg pe_int) pa_nil)))))
      pss_nil)
    (pss_cons (ps_if (pt_cmpR op_in_seq (pe_ix ix_tup (pv 0) pe_int (fun _ _ => rfl)) (pe_lst (pa_cons pe_str (pa_cons pe_str pa_nil))) rfl)
      (pss_one (ps_ret (pe_tup (pa_cons pe_str (pa_cons (pe_ix ix_list (pe_lst (pa_cons (pe_callTy call_int1 (by rfl) T.int (by decide +kernel) (pa_cons (pe_cmpR op_lt (pv 5) (pv 6) (nomark _)) pa_nil)) (pa_cons (pe_callTy call_int1 (by rfl) T.int (by decide +kernel) (pa_cons (pe_cmpR op_eq (pv 5) (pv 6) (nomark _)) pa_nil)) pa_nil))) (pe_callTy call_int1 (by rfl) T.int (by decide +kernel) (pa_cons (pe_cmpR op_eq (pe_ix ix_tup (pv 0) pe_int (fun _ _ => rfl)) pe_str (nomark _)) pa_nil)) (fun _ _ => rfl)) pa_nil)))))
      pss_nil)
    (pss_cons (ps_set (i := 7) scValue.nd rfl (Or.inl rfl) (pe_op op_mulW (pv 5) (pv 6)))
    (pss_cons (ps_if (pt_cmpR op_ne (pe_ix ix_tup (pv 0) pe_int (fun _ _ => rfl)) pe_str (nomark _))
      (pss_one (ps_set (i := 7) scValue.nd rfl (Or.inl rfl) (pe_op op_add (pv 5) (pe_op op_mul (pv 6) (pe_ix ix_list (pe_lst (pa_cons pe_int (pa_cons (pe_un un_neg pe_int) pa_nil))) (pe_callTy call_int1 (by rfl) T.int (by decide +kernel) (pa_cons (pe_cmpR op_eq (pe_ix ix_tup (pv 0) pe_int (fun _ _ => rfl)) pe_str (nomark _)) pa_nil)) (fun _ _ => rfl))))))
      pss_nil)
    (pss_one (ps_ret (pe_ifExp (pt_cmpR op_lt (pe_callB call_abs (by rfl) T.abs (by decide +kernel) (pa_cons (pv 7) pa_nil)) (pe_op op_pow pe_int pe_int) (nomark _)) (pe_tup (pa_cons pe_str (pa_cons (pv 7) pa_nil))) (pe_tup (pa_cons pe_str (pa_cons (pe_un un_neg pe_int) pa_nil))))))))))))))), ?_⟩
  have hs : sizeLine = 16777216 := by decide
  cases e with
  | num i =>
    obtain ⟨a, rfl, ha⟩ := hT
    refine ⟨_, rfl, a, _, 0, _, rfl, rfl, SqT.of ha, atI_nat rfl, rfl, _, rfl, ?_⟩
    rw [decide_eq_true rfl]
    refine iteT ⟨_, rfl, a, _, 1, _, rfl, rfl, SqT.of ha, atI_nat (j := 1) rfl, (by show 2 ≤ sizeLine; decide), fun p hp => ?_⟩
    exact q p _ (same_new hp _) ⟨_, rfl, upd_same⟩
  | nam z =>
    obtain ⟨a, rfl, ha⟩ := hT
    obtain ⟨kvs, hd, hk⟩ := hE.at_
    have D : DGet H d (.str z) (valV kvs (Sum.inr z)) := DGet.k (k := Sum.inr z) hd
    refine ⟨_, rfl, a, _, 0, _, rfl, rfl, SqT.of ha, atI_nat rfl, rfl, _, rfl, ?_⟩
    rw [decide_eq_false (by intro z; have := V.str.inj z; revert this; decide +kernel)]
    refine iteF ?_
    refine ⟨_, rfl, a, _, 0, _, rfl, rfl, SqT.of ha, atI_nat rfl, rfl, _, rfl, ?_⟩
    rw [decide_eq_true rfl]
    refine iteT ⟨_, rfl, a, _, 1, _, rfl, rfl, SqT.of ha, atI_nat (j := 1) rfl, _, rfl, d, _, rfl, D, _, rfl, ?_⟩
    cases he : env z with
    | none =>
      rw [(hk z).2 he]
      refine iteF ⟨_, rfl, (by show 2 ≤ sizeLine; decide), fun p hp => ?_⟩
      refine q p _ (same_new hp _) ?_
      have : Ex.ev env (.nam z) = .error (-1) := by unfold Ex.ev; rw [he]
      rw [this]
      exact upd_same
    | some x =>
      obtain ⟨_, v, e1, hv⟩ := (hk z).1 x he
      rw [e1] at D
      rw [e1]
      refine iteT ⟨_, rfl, _, rfl, a, _, 1, _, rfl, rfl, SqT.of ha, atI_nat (j := 1) rfl, d, v, rfl, D, (by show 2 ≤ sizeLine; decide), fun p hp => ?_⟩
      refine q p _ (same_new hp _) ?_
      have : Ex.ev env (.nam z) = .ok x := by unfold Ex.ev; rw [he]
      rw [this]
      exact ⟨v, hv.same (same_new hp _), upd_same⟩
  | op g l r =>
    obtain ⟨a, x, y, rfl, ha, hl, hr'⟩ := hT
    obtain ⟨o1, o2⟩ := ho
    refine ⟨_, rfl, a, _, 0, _, rfl, rfl, SqT.of ha, atI_nat rfl, rfl, _, rfl, ?_⟩
    rw [decide_eq_false (by intro z; exact g.ne_number (V.str.inj z))]
    refine iteF ?_
    refine ⟨_, rfl, a, _, 0, _, rfl, rfl, SqT.of ha, atI_nat rfl, rfl, _, rfl, ?_⟩
    rw [decide_eq_false (by intro z; exact g.ne_name (V.str.inj z))]
    refine iteF ?_
    have q0 : ∀ p H', Same H H' → ToldAt H' p ((l.ev env).bind fun a => (r.ev env).bind fun b => (asNum a).bind fun i => (asNum b).bind fun j => (g.run i j).bind fun n => .ok (.num n)) → Q (.ref p) H' := q
    refine ⟨_, rfl, a, _, 1, _, rfl, rfl, SqT.of ha, atI_nat (j := 1) rfl, _, rfl, x, d, l, env, rfl, hl, o1, hE, fun p1 H1 s1 t1 => ?_⟩
    refine ⟨_, rfl, a, _, 2, _, rfl, rfl, SqT.of (s1 _ _ ha), atI_nat (j := 2) rfl, _, rfl, y, d, r, env, rfl, hr'.same s1, o2, hE.same s1, fun p2 H2 s2 t2 => ?_⟩
    refine ⟨(by show 2 ≤ sizeLine; decide), fun ls hls => ?_⟩
    have s3 := same_new hls (.lst [V.ref p1, .ref p2])
    have hL := upd_same (H := H2) (a := ls) (o := .lst [V.ref p1, .ref p2])
    generalize upd H2 ls (.lst [V.ref p1, .ref p2]) = H3 at s3 hL
    have t1' := t1.same (s2.trans s3)
    have t2' := t2.same s3
    have s13 := s1.trans (s2.trans s3)
    have ha3 := s13 _ _ ha
    have he : ∀ nm x, env nm = some x → x.ok := fun nm x e => by
      obtain ⟨kvs, _, h⟩ := hE.at_
      exact ((h nm).1 x e).1
    refine ⟨_, rfl, ls, rfl, ⟨_, SqL.of hL⟩, ?_⟩
    refine for_list (K := K) (a := ls) (xs := [V.ref p1, .ref p2]) (fun i σ H' => ∃ y3 y4 : Option V, σ = [some (.ref a), some (.ref d), some (.ref ls), y3, y4, none, none, none] ∧ H' = H3 ∧ (0 < i → ∃ a1, l.ev env = .ok a1) ∧ (1 < i → ∃ b1, r.ev env = .ok b1)) ⟨none, none, rfl, rfl, fun h => absurd h (by decide), fun h => absurd h (by decide)⟩ (fun i σ H' _ ⟨_, _, _, e, _⟩ => by rw [e]; exact SqL.of hL) ?_ ?_
    · rintro i v σ H4 hv ⟨y3, y4, rfl, rfl, k1, k2⟩
      have hi : i = 0 ∨ i = 1 := by
        have : i < 2 := by
          rcases Nat.lt_or_ge i 2 with h | h
          · exact h
          · rw [List.getElem?_eq_none (by show 2 ≤ i; exact h)] at hv; cases hv
        omega
      rcases hi with rfl | rfl
      · cases hv
        cases h1 : l.ev env with
        | error m =>
          rw [h1] at t1' q0
          refine ⟨p1, _, rfl, SqT.of t1', rfl, _, _, rfl, _, _, rfl, rfl, ?_⟩
          refine ⟨_, rfl, rfl, _, rfl, ?_⟩
          rw [decide_eq_true rfl]
          refine iteT ⟨_, rfl, (by show 2 ≤ sizeLine; decide), fun p hp => ?_⟩
          exact q0 p _ (s13.trans (same_new hp _)) upd_same
        | ok a1 =>
          rw [h1] at t1'
          obtain ⟨v1, _, h1'⟩ := t1'
          refine ⟨p1, _, rfl, SqT.of h1', rfl, _, _, rfl, _, _, rfl, rfl, ?_⟩
          refine ⟨_, rfl, rfl, _, rfl, ?_⟩
          rw [decide_eq_false (by intro z; have := V.str.inj z; revert this; decide +kernel)]
          exact iteF ⟨_, _, rfl, rfl, fun _ => ⟨a1, rfl⟩, fun h => absurd h (by decide)⟩
      · cases hv
        obtain ⟨a1, h1⟩ := k1 (by decide)
        rw [h1] at q0
        cases h2 : r.ev env with
        | error m =>
          rw [h2] at t2' q0
          refine ⟨p2, _, rfl, SqT.of t2', rfl, _, _, rfl, _, _, rfl, rfl, ?_⟩
          refine ⟨_, rfl, rfl, _, rfl, ?_⟩
          rw [decide_eq_true rfl]
          refine iteT ⟨_, rfl, (by show 2 ≤ sizeLine; decide), fun p hp => ?_⟩
          exact q0 p _ (s13.trans (same_new hp _)) upd_same
        | ok b1 =>
          rw [h2] at t2'
          obtain ⟨v1, _, h1'⟩ := t2'
          refine ⟨p2, _, rfl, SqT.of h1', rfl, _, _, rfl, _, _, rfl, rfl, ?_⟩
          refine ⟨_, rfl, rfl, _, rfl, ?_⟩
          rw [decide_eq_false (by intro z; have := V.str.inj z; revert this; decide +kernel)]
          exact iteF ⟨_, _, rfl, rfl, fun _ => ⟨a1, h1⟩, fun _ => ⟨b1, rfl⟩⟩
    rintro σ H4 ⟨y3, y4, rfl, rfl, k1, k2⟩
    obtain ⟨a1, h1⟩ := k1 (by show 0 < 2; decide)
    obtain ⟨b1, h2⟩ := k2 (by show 1 < 2; decide)
    rw [h1] at t1' q0
    rw [h2] at t2' q0
    have o1' := Ex.ev_ok he n l a1 o1 h1
    have o2' := Ex.ev_ok he n r b1 o2 h2
    obtain ⟨v1, w1, e1⟩ := t1'
    obtain ⟨v2, w2, e2⟩ := t2'
    change ∀ p H', Same H H' → ToldAt H' p ((asNum a1).bind fun i => (asNum b1).bind fun j => (g.run i j).bind fun n => .ok (.num n)) → Q (.ref p) H' at q0
    refine ⟨_, rfl, ls, _, 0, _, rfl, rfl, SqL.of hL, atI_nat rfl, p1, _, 1, _, rfl, rfl, SqT.of e1, atI_nat (j := 1) rfl, _, rfl, ls, _, 1, _, rfl, rfl, SqL.of hL, atI_nat (j := 1) rfl, p2, _, 1, _, rfl, rfl, SqT.of e2, atI_nat (j := 1) rfl, _, _, rfl, ?_⟩
    cases a1 with
    | fut pa =>
      obtain ⟨x1, x2, rfl, hx1, hx2⟩ := w1
      refine ⟨_, rfl, _, _, _, _, true, rfl, .ty "tuple", .base (.tup hx1), kit_ty (by decide +kernel), _, rfl, ?_⟩
      refine iteT ?_
      refine iteT ⟨_, rfl, (by show 2 ≤ sizeLine; decide), fun p hp => ?_⟩
      exact q0 p _ (s13.trans (same_new hp _)) upd_same
    | num i =>
    cases w1
    refine ⟨_, rfl, _, _, _, _, false, rfl, .ty "tuple", .base (.int i), kit_ty (by decide +kernel), _, rfl, ?_⟩
    refine iteF ?_
    cases b1 with
    | fut pb =>
      obtain ⟨x1, x2, rfl, hx1, hx2⟩ := w2
      refine ⟨_, rfl, _, _, _, _, true, rfl, .ty "tuple", .base (.tup hx1), kit_ty (by decide +kernel), _, rfl, ?_⟩
      refine iteT ⟨_, rfl, (by show 2 ≤ sizeLine; decide), fun p hp => ?_⟩
      exact q0 p _ (s13.trans (same_new hp _)) upd_same
    | num j =>
    cases w2
    refine ⟨_, rfl, _, _, _, _, false, rfl, .ty "tuple", .base (.int j), kit_ty (by decide +kernel), _, rfl, ?_⟩
    refine iteF ?_
    change ∀ p H', Same H H' → ToldAt H' p ((g.run i j).bind fun n => .ok (.num n)) → Q (.ref p) H' at q0
    --REST
    refine ⟨_, rfl, a, _, 0, _, rfl, rfl, SqT.of ha3, atI_nat rfl, (by show 2 ≤ sizeLine; decide), fun l5 n5 => ?_⟩
    have s5 := same_new n5 (.lst [V.str "<", .str "=="])
    have h5 := upd_same (H := H4) (a := l5) (o := .lst [V.str "<", .str "=="])
    generalize upd H4 l5 (.lst [V.str "<", .str "=="]) = H5 at s5 h5
    have s15 := s13.trans s5
    have ha5 := s5 _ _ ha3
    cases g with
    | lt =>
      refine ⟨l5, _, rfl, .inl (SqL.of h5), rfl, rfl, true, (by decide +kernel), ?_⟩
      refine iteT ?_
      refine ⟨_, rfl, _, rfl, _, _, rfl, rfl, .inr ⟨_, rfl, _, rfl, _, rfl, rfl, .inr ⟨_, rfl, (by show 2 ≤ sizeLine; decide), fun l6 n6 => ?_⟩⟩⟩
      refine ⟨_, rfl, a, _, 0, _, rfl, rfl, SqT.of ((same_new n6 _) _ _ ha5), atI_nat rfl, rfl, .inr ⟨_, rfl, l6, _, _, _, rfl, rfl, SqL.of upd_same, (by show atI _ (if decide (V.str (Sg.txt .lt) = V.str "==") = true then 1 else 0) = _; rw [show (if decide (V.str (Sg.txt .lt) = V.str "==") = true then (1 : Int) else 0) = 0 from by decide +kernel]; exact atI_nat (j := 0) rfl), (by show 2 ≤ sizeLine; decide), fun p hp => ?_⟩⟩
      refine q0 p _ (s15.trans ((same_new n6 _).trans (same_new hp _))) ⟨_, ?_, upd_same⟩
      exact rfl
    | eq =>
      refine ⟨l5, _, rfl, .inl (SqL.of h5), rfl, rfl, true, (by decide +kernel), ?_⟩
      refine iteT ?_
      refine ⟨_, rfl, _, rfl, _, _, rfl, rfl, .inr ⟨_, rfl, _, rfl, _, rfl, rfl, .inr ⟨_, rfl, (by show 2 ≤ sizeLine; decide), fun l6 n6 => ?_⟩⟩⟩
      refine ⟨_, rfl, a, _, 0, _, rfl, rfl, SqT.of ((same_new n6 _) _ _ ha5), atI_nat rfl, rfl, .inr ⟨_, rfl, l6, _, _, _, rfl, rfl, SqL.of upd_same, (by show atI _ (if decide (V.str (Sg.txt .eq) = V.str "==") = true then 1 else 0) = _; rw [show (if decide (V.str (Sg.txt .eq) = V.str "==") = true then (1 : Int) else 0) = 1 from by decide +kernel]; exact atI_nat (j := 1) rfl), (by show 2 ≤ sizeLine; decide), fun p hp => ?_⟩⟩
      refine q0 p _ (s15.trans ((same_new n6 _).trans (same_new hp _))) ⟨_, ?_, upd_same⟩
      show V.int _ = V.int (if decide (i = j) = true then 1 else 0)
      rw [dInt]
    | add =>
      refine ⟨l5, _, rfl, .inl (SqL.of h5), rfl, rfl, false, (by decide +kernel), ?_⟩
      refine iteF ?_
      refine ⟨_, rfl, _, rfl, _, _, rfl, rfl, mulB o1' o2', ?_⟩
      refine ⟨_, rfl, a, _, 0, _, rfl, rfl, SqT.of ha5, atI_nat rfl, rfl, _, rfl, ?_⟩
      refine ite2 (fun _ => ?_) (fun c => absurd (by decide +kernel) c)
      refine ⟨_, rfl, _, rfl, _, rfl, (by show 2 ≤ sizeLine; decide), fun l7 n7 => ?_⟩
      refine ⟨_, rfl, a, _, 0, _, rfl, rfl, SqT.of ((same_new n7 _) _ _ ha5), atI_nat rfl, rfl, .inr ⟨_, rfl, l7, _, _, _, rfl, rfl, SqL.of upd_same, (by show atI _ (if decide (V.str (Sg.txt .add) = V.str "-") = true then 1 else 0) = _; rw [show (if decide (V.str (Sg.txt .add) = V.str "-") = true then (1 : Int) else 0) = 0 from by decide +kernel]; exact atI_nat (j := 0) rfl), _, _, rfl, rfl, .inr ⟨by decide, by decide⟩, _, _, rfl, rfl, ?_⟩⟩
      have e0 : Sg.calc .add i j = i + j * 1 := by show _ = _; first | (rw [Int.mul_one]; rfl) | (rw [Int.mul_neg, Int.mul_one]; rfl)
      have q0 : ∀ p H', Same H H' → ToldAt H' p ((if (Sg.calc .add i j).natAbs ≤ mostN then Except.ok (Sg.calc .add i j) else Except.error (-4)).bind fun n => .ok (.num n)) → Q (.ref p) H' := q0
      rw [e0] at q0
      have s17 := s15.trans (same_new n7 (.lst [V.int 1, .int (-1)]))
      refine ⟨_, rfl, _, rfl, _, _, rfl, rfl, ⟨by decide, by decide, by decide⟩, _, _, rfl, rfl, _, rfl, ?_⟩
      have hM : mostN = 999999999999999999999999999999 := rfl
      have h30 : (10 : Int) ^ (30 : Int).toNat = 1000000000000000000000000000000 := by decide +kernel
      have qq : ∀ p H', Same H H' → ToldAt H' p ((if (i + j * 1).natAbs ≤ mostN then Except.ok (i + j * 1) else Except.error (-4)).bind fun n => .ok (.num n)) → Q (.ref p) H' := q0
      refine ite2 (fun c3 => ?_) (fun c3 => ?_)
      · have c4 := of_decide_eq_true c3
        rw [if_pos (by show (i + j * 1).natAbs ≤ mostN; revert c4; show (if i + j * 1 < 0 then -(i + j * 1) else i + j * 1) < (10 : Int) ^ (30 : Int).toNat → _; rw [h30]; split <;> omega)] at qq
        refine ⟨_, rfl, (by show 2 ≤ sizeLine; decide), fun p hp => ?_⟩
        exact qq p _ (s17.trans (same_new hp _)) ⟨_, rfl, upd_same⟩
      · have c4 : ¬ ((if i + j * 1 < 0 then -(i + j * 1) else i + j * 1) < (10 : Int) ^ (30 : Int).toNat) := fun z => c3 (decide_eq_true z)
        rw [if_neg (by show ¬ (i + j * 1).natAbs ≤ mostN; revert c4; rw [h30]; split <;> omega)] at qq
        refine ⟨_, rfl, (by show 2 ≤ sizeLine; decide), fun p hp => ?_⟩
        exact qq p _ (s17.trans (same_new hp _)) upd_same
    | sub =>
      refine ⟨l5, _, rfl, .inl (SqL.of h5), rfl, rfl, false, (by decide +kernel), ?_⟩
      refine iteF ?_
      refine ⟨_, rfl, _, rfl, _, _, rfl, rfl, mulB o1' o2', ?_⟩
      refine ⟨_, rfl, a, _, 0, _, rfl, rfl, SqT.of ha5, atI_nat rfl, rfl, _, rfl, ?_⟩
      refine ite2 (fun _ => ?_) (fun c => absurd (by decide +kernel) c)
      refine ⟨_, rfl, _, rfl, _, rfl, (by show 2 ≤ sizeLine; decide), fun l7 n7 => ?_⟩
      refine ⟨_, rfl, a, _, 0, _, rfl, rfl, SqT.of ((same_new n7 _) _ _ ha5), atI_nat rfl, rfl, .inr ⟨_, rfl, l7, _, _, _, rfl, rfl, SqL.of upd_same, (by show atI _ (if decide (V.str (Sg.txt .sub) = V.str "-") = true then 1 else 0) = _; rw [show (if decide (V.str (Sg.txt .sub) = V.str "-") = true then (1 : Int) else 0) = 1 from by decide +kernel]; exact atI_nat (j := 1) rfl), _, _, rfl, rfl, .inr ⟨by decide, by decide⟩, _, _, rfl, rfl, ?_⟩⟩
      have e0 : Sg.calc .sub i j = i + j * -1 := by show _ = _; first | (rw [Int.mul_one]; rfl) | (rw [Int.mul_neg, Int.mul_one]; rfl)
      have q0 : ∀ p H', Same H H' → ToldAt H' p ((if (Sg.calc .sub i j).natAbs ≤ mostN then Except.ok (Sg.calc .sub i j) else Except.error (-4)).bind fun n => .ok (.num n)) → Q (.ref p) H' := q0
      rw [e0] at q0
      have s17 := s15.trans (same_new n7 (.lst [V.int 1, .int (-1)]))
      refine ⟨_, rfl, _, rfl, _, _, rfl, rfl, ⟨by decide, by decide, by decide⟩, _, _, rfl, rfl, _, rfl, ?_⟩
      have hM : mostN = 999999999999999999999999999999 := rfl
      have h30 : (10 : Int) ^ (30 : Int).toNat = 1000000000000000000000000000000 := by decide +kernel
      have qq : ∀ p H', Same H H' → ToldAt H' p ((if (i + j * -1).natAbs ≤ mostN then Except.ok (i + j * -1) else Except.error (-4)).bind fun n => .ok (.num n)) → Q (.ref p) H' := q0
      refine ite2 (fun c3 => ?_) (fun c3 => ?_)
      · have c4 := of_decide_eq_true c3
        rw [if_pos (by show (i + j * -1).natAbs ≤ mostN; revert c4; show (if i + j * -1 < 0 then -(i + j * -1) else i + j * -1) < (10 : Int) ^ (30 : Int).toNat → _; rw [h30]; split <;> omega)] at qq
        refine ⟨_, rfl, (by show 2 ≤ sizeLine; decide), fun p hp => ?_⟩
        exact qq p _ (s17.trans (same_new hp _)) ⟨_, rfl, upd_same⟩
      · have c4 : ¬ ((if i + j * -1 < 0 then -(i + j * -1) else i + j * -1) < (10 : Int) ^ (30 : Int).toNat) := fun z => c3 (decide_eq_true z)
        rw [if_neg (by show ¬ (i + j * -1).natAbs ≤ mostN; revert c4; rw [h30]; split <;> omega)] at qq
        refine ⟨_, rfl, (by show 2 ≤ sizeLine; decide), fun p hp => ?_⟩
        exact qq p _ (s17.trans (same_new hp _)) upd_same
    | mul =>
      refine ⟨l5, _, rfl, .inl (SqL.of h5), rfl, rfl, false, (by decide +kernel), ?_⟩
      refine iteF ?_
      refine ⟨_, rfl, _, rfl, _, _, rfl, rfl, mulB o1' o2', ?_⟩
      refine ⟨_, rfl, a, _, 0, _, rfl, rfl, SqT.of ha5, atI_nat rfl, rfl, _, rfl, ?_⟩
      rw [show (V.str (Sg.txt .mul)) = V.str "*" from rfl]
      refine ite2 (fun c => absurd c (by decide +kernel)) (fun _ => ?_)
      refine ⟨_, rfl, _, rfl, _, _, rfl, rfl, ⟨by decide, by decide, by decide⟩, _, _, rfl, rfl, _, rfl, ?_⟩
      have hM : mostN = 999999999999999999999999999999 := rfl
      have h30 : (10 : Int) ^ (30 : Int).toNat = 1000000000000000000000000000000 := by decide +kernel
      have qq : ∀ p H', Same H H' → ToldAt H' p ((if (i * j).natAbs ≤ mostN then Except.ok (i * j) else Except.error (-4)).bind fun n => .ok (.num n)) → Q (.ref p) H' := q0
      refine ite2 (fun c3 => ?_) (fun c3 => ?_)
      · have c4 := of_decide_eq_true c3
        rw [if_pos (by show (i * j).natAbs ≤ mostN; revert c4; show (if i * j < 0 then -(i * j) else i * j) < (10 : Int) ^ (30 : Int).toNat → _; rw [h30]; split <;> omega)] at qq
        refine ⟨_, rfl, (by show 2 ≤ sizeLine; decide), fun p hp => ?_⟩
        exact qq p _ (s15.trans (same_new hp _)) ⟨_, rfl, upd_same⟩
      · have c4 : ¬ ((if i * j < 0 then -(i * j) else i * j) < (10 : Int) ^ (30 : Int).toNat) := fun z => c3 (decide_eq_true z)
        rw [if_neg (by show ¬ (i * j).natAbs ≤ mostN; revert c4; rw [h30]; split <;> omega)] at qq
        refine ⟨_, rfl, (by show 2 ≤ sizeLine; decide), fun p hp => ?_⟩
        exact qq p _ (s15.trans (same_new hp _)) upd_same
theorem value_none {f : Addr} {fd : FuncData} {k : Nat} : FnOk P w K mg base CX0 k f fd ["_law_tree_here", "_law_held"] (spValue 0) := by
  have no : ∀ vs H Q E, ¬ spValue 0 vs H Q E := fun vs H Q E h => by
    obtain ⟨v, d, e, env, _, _, h1, _⟩ := h
    exact h1
  exact ⟨fun vs H Q E h => absurd h (no vs H Q E), fun A outer s H args us vs Q E _ _ _ _ h => absurd h (no vs H Q E)⟩
theorem values {f : Addr} {fd : FuncData} (F : Fun K "_law_value" "_law_value" sValue f fd) (m : mg "_law_value" = some (.ref f)) (k : PySem.W.keepIn K (.ref f) = true) (b : Binds K fd ["_law_tree_here", "_law_held"] []) (T : Bi mg) (mt : mg "tuple" = none) : ∀ n, FnOk P w K mg base CX0 n f fd ["_law_tree_here", "_law_held"] (spValue n)
  | 0 => value_none
  | n + 1 => ok_value F ⟨values F m k b T mt n, m, k, b⟩ T mt
end
end SH

set_option Elab.async false
set_option linter.all false
set_option maxRecDepth 100000
namespace SH
open PySem L2
abbrev sArgs : Stmt := topS 112
theorem scArgs : FnScope ["_law_bag_here", "_law_many", "_law_found", "_law_k", "_law_some"] ["_law_bag_here", "_law_many"] (defScope sArgs) := ⟨rfl, rfl, rfl, by decide +kernel, rfl, by decide +kernel, by decide +kernel⟩
/-- so many numbers within bounds -/
def spArgs : Sp := fun vs H Q _ => ∃ (b : Addr) (m n : Nat), vs = [.ref b, .int m] ∧ m ≤ 12 ∧ Bag H b (n + 16 * m) ∧
  ∀ (p : Addr) (xs : List Int) (H' : Hp), H p = none → H' p = some (.lst (xs.map V.int)) → xs.length = m → (∀ x ∈ xs, x.natAbs ≤ mostN) → Bag H' b n → But b H H' → Q (.ref p) H'
section
variable {P : Program} {w : World} {K : PySem.W.Frag} {mg : Str → Option Value} {base : Heap}
theorem ok_args {f t u : Addr} {fd td ud : FuncData} (F : Fun K "_law_args" "_law_args" sArgs f fd) (TK : Fk P w K mg base 1 "_law_take" t td ["_law_bag_here", "_law_many"] spTake) (NU : Fk P w K mg base 2 "_law_number" u ud ["_law_bag_here"] spNumber) (T : Bi mg) :
    FnOk P w K mg base CX0 3 f fd ["_law_bag_here", "_law_many"] spArgs := by
  refine F.ok scArgs (fun vs H Q E h => ?_) (fun cdv A outer s H vs Q E hr h => ?_)
  · obtain ⟨b, m, n, rfl, _⟩ := h
    rfl
  obtain ⟨b, m, n, rfl, hm, hB, q⟩ := h
  refine ⟨_, (pss_cons (ps_set (i := 2) scArgs.nd rfl (Or.inl rfl) (pe_lst pa_nil))
    (pss_cons (ps_for PassesOwn.never rfl (pi_range1 (by rfl) T.range (pa_cons (pv 1) pa_nil)) (pg_name (i := 3) scArgs.nd rfl (.inl rfl))
      (pss_cons (ps_set (i := 4) scArgs.nd rfl (Or.inl rfl) (pe_lst (pa_cons (pe_call TK.G (hr.mono (by omega)) (by rfl) TK.m TK.k TK.b .nil pass0 (pa_cons (pv 0) (pa_cons pe_int pa_nil))) (pa_cons (pe_call TK.G (hr.mono (by omega)) (by rfl) TK.m TK.k TK.b .nil pass0 (pa_cons (pv 0) (pa_cons pe_int pa_nil))) (pa_cons (pe_op op_sub (pe_call TK.G (hr.mono (by omega)) (by rfl) TK.m TK.k TK.b .nil pass0 (pa_cons (pv 0) (pa_cons pe_int pa_nil))) pe_int) (pa_cons (pe_call NU.G (hr.mono (by omega)) (by rfl) NU.m NU.k NU.b .nil pass0 (pa_cons (pv 0) pa_nil)) pa_nil))))))
    (pss_one (ps_expr (pe_bm PySem.F.plainAttrs_list PySem.F.slot_list_append PySem.F.type_list_append mt_append (pv 2) (pa_cons (pe_ix ix_list (pe_op op_cat (pv 4) (pe_lst (pa_cons (pe_op op_sub pe_int (pe_ix ix_list (pv 4) pe_int (fun _ _ => rfl))) pa_nil))) (pe_call TK.G (hr.mono (by omega)) (by rfl) TK.m TK.k TK.b .nil pass0 (pa_cons (pv 0) (pa_cons pe_int pa_nil))) (fun _ _ => rfl)) pa_nil))))))
    (pss_one (ps_ret (pv 2))))), ?_⟩
  have hs : sizeLine = 16777216 := by decide
  have hM : mostN = 999999999999999999999999999999 := rfl
  have h65 : (1000000 : Int) ^ 5 = 1000000000000000000000000000000 := by decide +kernel
  refine ⟨Nat.zero_le _, fun p hp => ?_⟩
  obtain ⟨ys0, hb0⟩ := hB.lst
  have npb : p ≠ b := fun e => by rw [e, hb0] at hp; cases hp
  refine ⟨_, rfl, m, rfl, by omega, by omega, ?_⟩
  refine for_range (lo := 0) (n := (m : Int).toNat) (fun i σ H' => ∃ (xs : List Int) (y3 y4 : Option V), σ = [some (.ref b), some (.int m), some (.ref p), y3, y4] ∧
    H' p = some (.lst (xs.map V.int)) ∧ xs.length = i ∧ (∀ x ∈ xs, x.natAbs ≤ mostN) ∧ Bag H' b (n + 16 * (m - i)) ∧ But b H H') ?_ ?_ ?_
  · exact ⟨[], none, none, rfl, upd_same, rfl, fun s h => (by cases h), hB.same (same_new hp _), But.new hp _⟩
  · rintro i σ H1 hi ⟨xs, y3, y4, rfl, hp1, hl, hN, B1, U1⟩
    have hi' : i < m := by omega
    refine ⟨_, rfl, b, 4, n + 16 * (m - i) - 1, rfl, by decide, by decide, B1.less (by omega), fun d1 H2 a1 a2 B2 U2 => ?_⟩
    refine ⟨_, rfl, b, 4, n + 16 * (m - i) - 2, rfl, by decide, by decide, B2.less (by omega), fun d2 H3 b1 b2 B3 U3 => ?_⟩
    refine ⟨_, rfl, b, 40, n + 16 * (m - i) - 3, rfl, by decide, by decide, B3.less (by omega), fun d3 H4 c1 c2 B4 U4 => ?_⟩
    refine ⟨_, _, rfl, rfl, _, rfl, b, n + 16 * (m - i) - 11, rfl, B4.less (by omega), fun d4 H5 e1 e2 B5 U5 => ?_⟩
    refine ⟨(by show 4 ≤ sizeLine; decide), fun l1 n1 => ?_⟩
    have U15 : But b H1 H5 := U2.trans (U3.trans (U4.trans U5))
    have hp5 := U15 _ _ npb hp1
    have s6 := same_new n1 (.lst [V.int d1, .int d2, .int (d3 - 20), .int d4])
    have h6 := upd_same (H := H5) (a := l1) (o := .lst [V.int d1, .int d2, .int (d3 - 20), .int d4])
    generalize upd H5 l1 (.lst [V.int d1, .int d2, .int (d3 - 20), .int d4]) = H6 at s6 h6
    refine ⟨_, rfl, .inl ⟨rfl, _, SqL.of (s6 _ _ hp5)⟩, _, rfl, _, rfl, l1, _, 3, _, rfl, rfl, SqL.of h6, atI_nat (j := 3) rfl, _, _, rfl, rfl, (by show 1 ≤ sizeLine; decide), fun l2 n2 => ?_⟩
    have s7 := same_new n2 (.lst [V.int (0 - d4)])
    have h7 := upd_same (H := H6) (a := l2) (o := .lst [V.int (0 - d4)])
    generalize upd H6 l2 (.lst [V.int (0 - d4)]) = H7 at s7 h7
    refine ⟨l1, l2, _, _, rfl, rfl, s7 _ _ h6, h7, (by show 5 ≤ sizeLine; decide), fun l3 n3 => ?_⟩
    have s8 := same_new n3 (.lst ([V.int d1, .int d2, .int (d3 - 20), .int d4] ++ [V.int (0 - d4)]))
    have h8 := upd_same (H := H7) (a := l3) (o := .lst ([V.int d1, .int d2, .int (d3 - 20), .int d4] ++ [V.int (0 - d4)]))
    generalize upd H7 l3 (.lst ([V.int d1, .int d2, .int (d3 - 20), .int d4] ++ [V.int (0 - d4)])) = H8 at s8 h8
    have s58 := s6.trans (s7.trans s8)
    have B8 := B5.same s58
    obtain ⟨yb, hyb⟩ := (B5.same (s6.trans s7)).lst
    have nl3 : l3 ≠ b := fun e => by rw [e, hyb] at n3; cases n3
    refine ⟨_, rfl, b, 5, n + 16 * (m - i) - 12, rfl, by decide, by decide, B8.less (by omega), fun d5 H9 f1 f2 B9 U9 => ?_⟩
    obtain ⟨v, ev, hv⟩ := menuI (ns := [d1, d2, d3 - 20, d4, 0 - d4]) f1 (by show d5 < 5; exact f2)
    have hv' : v.natAbs ≤ mostN := by
      have : v = d1 ∨ v = d2 ∨ v = d3 - 20 ∨ v = d4 ∨ v = 0 - d4 := by simpa using hv
      rw [h65] at e2
      omega
    refine ⟨l3, _, _, _, rfl, rfl, SqL.of (U9 _ _ nl3 h8), ev, ?_⟩
    have hp9 := U9 _ _ npb (s58 _ _ hp5)
    refine ⟨p, _, _, rfl, rfl, hp9, ?_, ?_⟩
    · rw [List.length_map]
      omega
    · refine ⟨xs ++ [v], _, _, rfl, ?_, ?_, ?_, ?_, ?_⟩
      · rw [upd_same, List.map_append]
        rfl
      · rw [List.length_append, hl]
        rfl
      · intro z hz
        rcases List.mem_append.mp hz with h | h
        · exact hN z h
        · rw [List.mem_singleton.mp h]; exact hv'
      · obtain ⟨x, y, z, e, r1, r2, r3, r4, r5⟩ := B9
        exact ⟨x, y, z, by rw [upd_ne (Ne.symm npb)]; exact e, r1, r2, r3, r4, by omega⟩
      · intro a o na e
        have hap : a ≠ p := ne_of_none e hp
        rw [upd_ne hap]
        exact U9 _ _ na (s58 _ _ (U15 _ _ na (U1 _ _ na e)))
  · rintro σ H1 ⟨xs, y3, y4, rfl, hp1, hl, hN, B1, U1⟩
    exact ⟨_, rfl, q p xs H1 hp hp1 (by omega) hN (B1.less (by omega)) U1⟩
end
end SH

set_option Elab.async false
set_option linter.all false
set_option maxRecDepth 100000
namespace SH
open PySem L2
abbrev sTold : Stmt := topS 115
abbrev sEdge : Stmt := topS 117
theorem scTold : FnScope ["_law_works", "_law_args_here", "_law_run"] ["_law_works", "_law_args_here"] (defScope sTold) := ⟨rfl, rfl, rfl, by decide +kernel, rfl, by decide +kernel, by decide +kernel⟩
theorem scEdge : FnScope ["_law_bag_here", "_law_near", "_law_one", "_law_other", "_law_low", "_law_half", "_law_some"] ["_law_bag_here"] (defScope sEdge) := ⟨rfl, rfl, rfl, by decide +kernel, rfl, by decide +kernel, by decide +kernel⟩
/-- nothing is raised -/
theorem passNo {X : Cx} : Passes (L2.CX X.prog X.w) X (fun _ _ _ => False) := fun pins σ H s e s' I ⟨a, B, H', cls, d, _, _, _, _, _, _, _, h⟩ => h.elim
def spTold (K : PySem.W.Frag) : Sp := fun vs H Q _ => ∃ (lw la : Addr) (us : List V) (Ws : List Wk) (W : Wk) (args : List Int) (r : List Nd × Rts) (z : Rz), vs = [.ref lw, .ref la] ∧ H lw = some (.lst us) ∧ WksIn H Ws us ∧ WksOk Ws ∧ W ∈ Ws ∧ W.name = "f" ∧ H la = some (.lst (args.map V.int)) ∧ args.length = W.names.length ∧ (∀ x ∈ args, x.natAbs ≤ mostN) ∧
  runS Ws 400 [mainT W args] [] = some r ∧ r.2.lookup [] = some z ∧ r.2.length ≤ 100000 ∧ (r.2.map Prod.fst).Nodup ∧ PySem.W.AllAlike (r.2.map endD) ∧
  ∀ (p : Addr) (H' : Hp), Same H H' → Dp K H' (.ref p) (toldD z (r.1.length : Nat) (mostOf (mainT W args) r.1) r.2) → Q (.ref p) H'
section
variable {P : Program} {w : World} {K : PySem.W.Frag} {mg : Str → Option Value} {base : Heap}
theorem ok_told {f a1 a2 fI CT CF C CS CR : Addr} {fd d1 d2 dI : FuncData} {g : List Value → List Value → List Value} (F : Fun K "_law_told" "_law_told" sTold f fd) (RT : RnT K CR) (SE : FkN P w K mg base (L2.CX P w) 17 "serial" a1 d1 ["book", "name", "args", "budget"] (spSerial CT CF C CS CR)) (kS0 : KBn K d1 ["book", "name", "args", "budget"] 3 [] g (fun vs _ => vs ++ [V.int 400]))
    (EN : FkM P w K mg base 1 CR "ends" a2 d2 ["self"] (spEnds K CR)) (BK : BkT K mg C) (MK : Mk K C fI) (GI : FnOk P w K mg base CX0 26 fI dI ["self", "works"] (spBookInit C)) (bI : Binds K dI ["self", "works"] []) : FnOk P w K mg base CX0 28 f fd ["_law_works", "_law_args_here"] (spTold K) := by
  refine F.ok scTold (fun vs H Q E h => ?_) (fun cdv A outer s H vs Q E hr h => ?_)
  · obtain ⟨lw, la, us, Ws, W, args, r, z, rfl, _⟩ := h
    rfl
  obtain ⟨lw, la, us, Ws, W, args, r, z, rfl, hw, hW, wok, mW, nW, hla, ln, hn, hrun, hz, few, nd, al, q⟩ := h
  refine ⟨_, (pss_cons (ps_set (i := 2) scTold.nd rfl (Or.inl rfl) (pe_callN SE.G (hr.mono (by omega)) (by rfl) SE.m SE.k kS0 passNo (pa_cons (pe_make MK GI (hr.mono (by omega)) (by rfl) BK.mgC bI .nil pass0 (pa_cons (pv 0) pa_nil)) (pa_cons pe_str (pa_cons (pv 1) pa_nil))) pk_nil))
    (pss_one (ps_ret (pe_tup (pa_cons (pe_fld (pv 2) rfl) (pa_cons (pe_fld (pv 2) rfl) (pa_cons (pe_fld (pv 2) rfl) (pa_cons (pe_meth0 (pv 2) RT.cl EN.M EN.G (hr.mono (by omega)) EN.b .nil pass0) pa_nil)))))))), ?_⟩
  refine ⟨_, rfl, fun x dx nx ndx nex => ?_⟩
  have sM : Same H (upd (upd H dx (.own x)) x (.ins C dx [])) := fun y o z => by rw [upd_ne (ne_of_none z nx), upd_ne (ne_of_none z ndx)]; exact z
  refine ⟨x, dx, lw, us, Ws, rfl, upd_same, sM _ _ hw, hW.same sM, wok, fun p H5 kp np hp hx => ⟨rfl, ?_⟩⟩
  have s5 : Same H H5 := fun y o z => kp y o (sM _ _ z) (ne_of_none z nx)
  refine ⟨_, rfl, rfl, rfl, x, la, Ws, W, args, 400, ?_, ⟨dx, p, us, hx, hp, hW.same s5⟩, wok, mW, s5 _ _ hla, ln, hn, by decide, ?_⟩
  · show [V.ref x, .str "f", .ref la, .int 400] = _
    rw [nW]
    rfl
  rw [hrun]
  intro u H6 s6 nu ⟨du, rd, rv, z', hu, hz', hrz, hRs⟩
  have ez : z' = z := by rw [hz] at hz'; cases hz'; rfl
  subst ez
  have s56 := s5.trans s6
  refine ⟨_, rfl, u, CR, du, _, _, rfl, hu, RT.cl, RT.result, rfl, _, rfl, u, CR, du, _, _, rfl, hu, RT.cl, RT.count, rfl, _, rfl, u, CR, du, _, _, rfl, hu, RT.cl, RT.most, rfl, _, rfl, u, du, _, rfl, hu, rfl, u, _, _, r.2, rfl, ⟨du, rd, rv, z', hu, hz', hrz, hRs⟩, few, nd, fun l ls H7 s7 nl hl hD => ?_⟩
  refine ⟨(by show 4 ≤ sizeLine; decide), fun p9 np9 => ?_⟩
  have s9 := same_new np9 (.tup [rv, .int (r.1.length : Nat), .int (mostOf (mainT W args) r.1), .ref l])
  refine q p9 _ (s56.trans (s7.trans s9)) (.tup (SqT.of upd_same) (.cons (rzDp (hrz.same (s7.trans s9))) (.cons (.int _) (.cons (.int _) (.cons (.lst (SqL.of (s9 _ _ hl)) ?_) .nil)))))
  refine DpAll.keep (Same.kpT s9) (onlyTs_mem fun d hd => ?_) hD
  have hd : d ∈ (r.2.map endD).mergeSort (PySem.W.dataLe false id) := hd
  obtain ⟨y, _, e⟩ := List.mem_map.mp (List.mem_mergeSort.mp hd)
  rw [← e]
  exact only_end y
end
end SH

set_option Elab.async false
set_option linter.all false
set_option maxRecDepth 100000
namespace SH
open PySem L2
def spEdge : Sp := fun vs H Q _ => ∃ (b : Addr) (n : Nat), vs = [.ref b] ∧ Bag H b (n + 4) ∧ ∀ (l : Addr) (us : List V) (es : List Ex) (H' : Hp), H l = none → H' l = some (.lst us) → TrsIn H' es us → (∀ e ∈ es, Ex.fine 6 e) → es.length = 6 → Bag H' b n → But b H H' → Q (.ref l) H'
theorem But.tups {b : Addr} {ys : List V} {H H' : Hp} (hb : H b = some (.lst ys)) (u : But b H H') : Tups H H' := fun a us e => u _ _ (fun z => by rw [z, hb] at e; cases e) e
theorem cp30 : CPow 10 30 := ⟨by decide, by decide, by decide⟩
theorem cp15 : CPow 10 15 := ⟨by decide, by decide, by decide⟩
theorem fineN {n : Nat} {i : Int} (h0 : 0 ≤ i) (h1 : i < 1000000000000000000000000000000) : Ex.fine (n + 1) (.num i) := ⟨h0, by rw [show (1000000 : Int) ^ 5 = 1000000000000000000000000000000 by decide +kernel]; exact h1⟩
section
variable {P : Program} {w : World} {K : PySem.W.Frag} {mg : Str → Option Value} {base : Heap}
theorem ok_edge {f t : Addr} {fd td : FuncData} (F : Fun K "_law_edge" "_law_edge" sEdge f fd) (TK : Fk P w K mg base 1 "_law_take" t td ["_law_bag_here", "_law_many"] spTake) : FnOk P w K mg base CX0 2 f fd ["_law_bag_here"] spEdge := by
  refine F.ok scEdge (fun vs H Q E h => ?_) (fun cdv A outer s H vs Q E hr h => ?_)
  · obtain ⟨b, n, rfl, _⟩ := h
    rfl
  obtain ⟨b, n, rfl, hB, q⟩ := h
  refine ⟨_, (pss_cons (ps_set (i := 1) scEdge.nd rfl (Or.inl rfl) (pe_op op_add (pe_op op_sub (pe_op op_pow pe_int pe_int) pe_int) (pe_call TK.G (hr.mono (by omega)) (by rfl) TK.m TK.k TK.b .nil pass0 (pa_cons (pv 0) (pa_cons pe_int pa_nil)))))
    (pss_cons (ps_set (i := 2) scEdge.nd rfl (Or.inl rfl) (pe_tup (pa_cons pe_str (pa_cons (pv 1) pa_nil))))
    (pss_cons (ps_set (i := 3) scEdge.nd rfl (Or.inl rfl) (pe_tup (pa_cons pe_str (pa_cons (pe_call TK.G (hr.mono (by omega)) (by rfl) TK.m TK.k TK.b .nil pass0 (pa_cons (pv 0) (pa_cons pe_int pa_nil))) pa_nil))))
    (pss_cons (ps_set (i := 4) scEdge.nd rfl (Or.inl rfl) (pe_tup (pa_cons pe_str (pa_cons (pe_tup (pa_cons pe_str (pa_cons pe_int pa_nil))) (pa_cons (pv 2) pa_nil)))))
    (pss_cons (ps_set (i := 5) scEdge.nd rfl (Or.inl rfl) (pe_tup (pa_cons pe_str (pa_cons (pe_op op_add (pe_op op_sub (pe_op op_pow pe_int pe_int) pe_int) (pe_call TK.G (hr.mono (by omega)) (by rfl) TK.m TK.k TK.b .nil pass0 (pa_cons (pv 0) (pa_cons pe_int pa_nil)))) pa_nil))))
    (pss_cons (ps_set (i := 6) scEdge.nd rfl (Or.inl rfl) (pe_lst (pa_cons (pe_tup (pa_cons pe_str (pa_cons (pv 2) (pa_cons (pv 3) pa_nil)))) (pa_cons (pe_tup (pa_cons pe_str (pa_cons (pv 4) (pa_cons (pv 3) pa_nil)))) (pa_cons (pe_tup (pa_cons pe_str (pa_cons (pv 5) (pa_cons (pe_tup (pa_cons pe_str (pa_cons (pe_op op_add (pe_op op_sub (pe_op op_pow pe_int pe_int) pe_int) (pe_call TK.G (hr.mono (by omega)) (by rfl) TK.m TK.k TK.b .nil pass0 (pa_cons (pv 0) (pa_cons pe_int pa_nil)))) pa_nil))) pa_nil)))) pa_nil)))))
    (pss_one (ps_ret (pe_op op_cat (pv 6) (pe_lst (pa_cons (pe_tup (pa_cons pe_str (pa_cons (pv 4) (pa_cons (pv 3) pa_nil)))) (pa_cons (pe_tup (pa_cons pe_str (pa_cons (pe_tup (pa_cons pe_str (pa_cons (pv 2) (pa_cons (pv 3) pa_nil)))) (pa_cons (pe_tup (pa_cons pe_str (pa_cons pe_int pa_nil))) pa_nil)))) (pa_cons (pe_tup (pa_cons pe_str (pa_cons (pv 4) (pa_cons (pv 3) pa_nil)))) pa_nil))))))))))))), ?_⟩
  have e30 : (10 : Int) ^ (30 : Int).toNat = 1000000000000000000000000000000 := by decide +kernel
  have e15 : (10 : Int) ^ (15 : Int).toNat = 1000000000000000 := by decide +kernel
  refine ⟨_, _, rfl, rfl, cp30, _, _, rfl, rfl, _, rfl, b, 3, n + 3, rfl, by decide, by decide, hB, fun d1 H1 d10 d13 B1 U1 => ⟨_, _, rfl, rfl, ?_⟩⟩
  rw [e30]
  obtain ⟨ys0, hb0⟩ := hB.lst
  have t1 := U1.tups hb0
  -- one
  refine ⟨_, rfl, (by show 2 ≤ sizeLine; decide), fun p1 np1 => ?_⟩
  have s1 := same_new np1 (.tup [V.str "number", .int (1000000000000000000000000000000 - 3 + d1)])
  have k1 := upd_same (H := H1) (a := p1) (o := .tup [V.str "number", .int (1000000000000000000000000000000 - 3 + d1)])
  have C1 := B1.same s1
  have V1 : But b H _ := U1.trans (But.new np1 (.tup [V.str "number", .int (1000000000000000000000000000000 - 3 + d1)]))
  generalize upd H1 p1 (.tup [V.str "number", .int (1000000000000000000000000000000 - 3 + d1)]) = G1 at s1 k1 C1 V1 ⊢
  -- other
  refine ⟨_, rfl, b, 6, n + 2, rfl, by decide, by decide, C1, fun d2 H2 d20 d26 B2 U2 => ⟨(by show 2 ≤ sizeLine; decide), fun p2 np2 => ?_⟩⟩
  obtain ⟨ys1, hb1⟩ := C1.lst
  have s2 := same_new np2 (.tup [V.str "number", .int d2])
  have k2 := upd_same (H := H2) (a := p2) (o := .tup [V.str "number", .int d2])
  have C2 := B2.same s2
  have V2 := V1.trans (U2.trans (But.new np2 (.tup [V.str "number", .int d2])))
  have T2 : Tups G1 (upd H2 p2 (.tup [V.str "number", .int d2])) := fun a us e => s2 _ _ (U2.tups hb1 _ _ e)
  generalize upd H2 p2 (.tup [V.str "number", .int d2]) = G2 at s2 k2 C2 V2 T2 ⊢
  -- low
  refine ⟨(by show 2 ≤ sizeLine; decide), fun p3 np3 => ⟨_, rfl, (by show 3 ≤ sizeLine; decide), fun p4 np4 => ?_⟩⟩
  have s3 := same_new np3 (.tup [V.str "number", .int 0])
  have s4 := same_new np4 (.tup [V.str "-", .ref p3, .ref p1])
  have k3 := s4 _ _ (upd_same (H := G2) (a := p3) (o := .tup [V.str "number", .int 0]))
  have k4 := upd_same (H := upd G2 p3 (.tup [V.str "number", .int 0])) (a := p4) (o := .tup [V.str "-", .ref p3, .ref p1])
  have s34 := s3.trans s4
  have C4 := C2.same s34
  have V4 := V2.trans ((But.new (b := b) np3 (.tup [V.str "number", .int 0])).trans (But.new np4 (.tup [V.str "-", .ref p3, .ref p1])))
  generalize upd (upd G2 p3 (.tup [V.str "number", .int 0])) p4 (.tup [V.str "-", .ref p3, .ref p1]) = G4 at s34 k3 k4 C4 V4 ⊢
  -- half
  refine ⟨_, _, rfl, rfl, cp15, _, _, rfl, rfl, _, rfl, b, 2, n + 1, rfl, by decide, by decide, C4, fun d3 H5 d30 d32 B5 U5 => ⟨_, _, rfl, rfl, (by show 2 ≤ sizeLine; decide), fun p5 np5 => ?_⟩⟩
  rw [e15]
  obtain ⟨ys4, hb4⟩ := C4.lst
  have s5 := same_new np5 (.tup [V.str "number", .int (1000000000000000 - 1 + d3)])
  have k5 := upd_same (H := H5) (a := p5) (o := .tup [V.str "number", .int (1000000000000000 - 1 + d3)])
  have C5 := B5.same s5
  have V5 := V4.trans (U5.trans (But.new np5 (.tup [V.str "number", .int (1000000000000000 - 1 + d3)])))
  have T5 : Tups G4 (upd H5 p5 (.tup [V.str "number", .int (1000000000000000 - 1 + d3)])) := fun a us e => s5 _ _ (U5.tups hb4 _ _ e)
  generalize upd H5 p5 (.tup [V.str "number", .int (1000000000000000 - 1 + d3)]) = G5 at s5 k5 C5 V5 T5 ⊢
  refine ⟨_, rfl, _, rfl, (by show 3 ≤ sizeLine; decide), fun p6 np6 => ⟨_, rfl, _, rfl, (by show 3 ≤ sizeLine; decide), fun p7 np7 => ?_⟩⟩
  have s6 := same_new np6 (.tup [V.str "+", .ref p1, .ref p2])
  have s7 := same_new np7 (.tup [V.str "-", .ref p4, .ref p2])
  have k6 := s7 _ _ (upd_same (H := G5) (a := p6) (o := .tup [V.str "+", .ref p1, .ref p2]))
  have k7 := upd_same (H := upd G5 p6 (.tup [V.str "+", .ref p1, .ref p2])) (a := p7) (o := .tup [V.str "-", .ref p4, .ref p2])
  have s67 := s6.trans s7
  have C7 := C5.same s67
  have V7 := V5.trans ((But.new (b := b) np6 (.tup [V.str "+", .ref p1, .ref p2])).trans (But.new np7 (.tup [V.str "-", .ref p4, .ref p2])))
  generalize upd (upd G5 p6 (.tup [V.str "+", .ref p1, .ref p2])) p7 (.tup [V.str "-", .ref p4, .ref p2]) = G7 at s67 k6 k7 C7 V7 ⊢
  refine ⟨_, rfl, _, _, rfl, rfl, cp15, _, _, rfl, rfl, _, rfl, b, 3, n, rfl, by decide, by decide, C7, fun d4 H8 d40 d43 B8 U8 => ⟨_, _, rfl, rfl, (by show 2 ≤ sizeLine; decide), fun p8 np8 => ⟨(by show 3 ≤ sizeLine; decide), fun p9 np9 => ⟨(by show 3 ≤ sizeLine; decide), fun l1 nl1 => ?_⟩⟩⟩⟩
  rw [e15] at *
  obtain ⟨ys7, hb7⟩ := C7.lst
  have T7 := U8.tups hb7
  have s8 := same_new np8 (.tup [V.str "number", .int (1000000000000000 - 1 + d4)])
  have s9 := same_new np9 (.tup [V.str "*", .ref p5, .ref p8])
  have sl1 := same_new nl1 (.lst [V.ref p6, .ref p7, .ref p9])
  have k8 := sl1 _ _ (s9 _ _ (upd_same (H := H8) (a := p8) (o := .tup [V.str "number", .int (1000000000000000 - 1 + d4)])))
  have k9 := sl1 _ _ (upd_same (H := upd H8 p8 (.tup [V.str "number", .int (1000000000000000 - 1 + d4)])) (a := p9) (o := .tup [V.str "*", .ref p5, .ref p8]))
  have kl1 := upd_same (H := upd (upd H8 p8 (.tup [V.str "number", .int (1000000000000000 - 1 + d4)])) p9 (.tup [V.str "*", .ref p5, .ref p8])) (a := l1) (o := .lst [V.ref p6, .ref p7, .ref p9])
  have s8l := s8.trans (s9.trans sl1)
  have C9 := B8.same s8l
  have V9 : But b H _ := V7.trans (U8.trans (But.of s8l))
  generalize upd (upd (upd H8 p8 (.tup [V.str "number", .int (1000000000000000 - 1 + d4)])) p9 (.tup [V.str "*", .ref p5, .ref p8])) l1 (.lst [V.ref p6, .ref p7, .ref p9]) = G9 at s8l k8 k9 kl1 C9 V9 ⊢
  refine ⟨_, rfl, _, rfl, _, rfl, (by show 3 ≤ sizeLine; decide), fun p10 np10 => ⟨_, rfl, _, rfl, (by show 3 ≤ sizeLine; decide), fun p11 np11 => ⟨(by show 2 ≤ sizeLine; decide), fun p12 np12 => ⟨(by show 3 ≤ sizeLine; decide), fun p13 np13 => ⟨_, rfl, _, rfl, (by show 3 ≤ sizeLine; decide), fun p14 np14 => ⟨(by show 3 ≤ sizeLine; decide), fun l2 nl2 => ?_⟩⟩⟩⟩⟩⟩
  have s10 := same_new np10 (.tup [V.str "+", .ref p4, .ref p2])
  have s11 := same_new np11 (.tup [V.str "+", .ref p1, .ref p2])
  have s12 := same_new np12 (.tup [V.str "number", .int 0])
  have s13 := same_new np13 (.tup [V.str "<", .ref p11, .ref p12])
  have s14 := same_new np14 (.tup [V.str "*", .ref p4, .ref p2])
  have sl2 := same_new nl2 (.lst [V.ref p10, .ref p13, .ref p14])
  refine ⟨l1, l2, _, _, rfl, rfl, (s10.trans (s11.trans (s12.trans (s13.trans (s14.trans sl2))))) _ _ kl1, upd_same, (by show 6 ≤ sizeLine; decide), fun l nl => ?_⟩
  have sl := same_new nl (.lst ([V.ref p6, .ref p7, .ref p9] ++ [V.ref p10, .ref p13, .ref p14]))
  have m14 := (sl2.trans sl) _ _ upd_same
  have s14' := s14.trans (sl2.trans sl)
  have m13 := s14' _ _ upd_same
  have s13' := s13.trans s14'
  have m12 := s13' _ _ upd_same
  have s12' := s12.trans s13'
  have m11 := s12' _ _ upd_same
  have s11' := s11.trans s12'
  have m10 := s11' _ _ upd_same
  have sF := s10.trans s11'
  have fl : H l = none := by
    cases e : H l with
    | none => rfl
    | some o =>
      have nlb : l ≠ b := fun z => by
        obtain ⟨ys, hb9⟩ := C9.lst
        rw [z, (s10.trans (s11.trans (s12.trans (s13.trans (s14.trans sl2))))) _ _ hb9] at nl
        cases nl
      have := (s10.trans (s11.trans (s12.trans (s13.trans (s14.trans sl2))))) _ _ (V9 _ _ nlb e)
      rw [this] at nl
      cases nl
  have t9 : Tups G9 _ := Same.tups sF
  have t7 : Tups G7 _ := fun a us e => t9 _ _ (s8l _ _ (T7 _ _ e))
  have t5 : Tups G5 _ := fun a us e => t7 _ _ (s67 _ _ e)
  have t4 : Tups G4 _ := fun a us e => t5 _ _ (T5 _ _ e)
  have t2 : Tups G2 _ := fun a us e => t4 _ _ (s34 _ _ e)
  have tG1 : Tups G1 _ := fun a us e => t2 _ _ (T2 _ _ e)
  have one := tG1 _ _ k1
  have oth := t2 _ _ k2
  have zer := t4 _ _ k3
  have low := t4 _ _ k4
  have hlf := t5 _ _ k5
  have a6 := t7 _ _ k6
  have a7 := t7 _ _ k7
  have a8 := t9 _ _ k8
  have a9 := t9 _ _ k9
  have C := C9.same sF
  have VF := V9.trans (But.of sF)
  refine q l _ [.op .add (.num (1000000000000000000000000000000 - 3 + d1)) (.num d2), .op .sub (.op .sub (.num 0) (.num (1000000000000000000000000000000 - 3 + d1))) (.num d2), .op .mul (.num (1000000000000000 - 1 + d3)) (.num (1000000000000000 - 1 + d4)),
    .op .add (.op .sub (.num 0) (.num (1000000000000000000000000000000 - 3 + d1))) (.num d2), .op .lt (.op .add (.num (1000000000000000000000000000000 - 3 + d1)) (.num d2)) (.num 0), .op .mul (.op .sub (.num 0) (.num (1000000000000000000000000000000 - 3 + d1))) (.num d2)] _ fl upd_same ?_ ?_ rfl C VF
  · have L := (show TrIn _ (.op .sub (.num 0) (.num (1000000000000000000000000000000 - 3 + d1))) (.ref p4) from ⟨p4, _, _, rfl, low, ⟨p3, rfl, zer⟩, ⟨p1, rfl, one⟩⟩)
    exact ⟨_, _, rfl, ⟨p6, _, _, rfl, a6, ⟨p1, rfl, one⟩, ⟨p2, rfl, oth⟩⟩, _, _, rfl, ⟨p7, _, _, rfl, a7, L, ⟨p2, rfl, oth⟩⟩, _, _, rfl, ⟨p9, _, _, rfl, a9, ⟨p5, rfl, hlf⟩, ⟨p8, rfl, a8⟩⟩, _, _, rfl, ⟨p10, _, _, rfl, m10, L, ⟨p2, rfl, oth⟩⟩, _, _, rfl, ⟨p13, _, _, rfl, m13, ⟨p11, _, _, rfl, m11, ⟨p1, rfl, one⟩, ⟨p2, rfl, oth⟩⟩, ⟨p12, rfl, m12⟩⟩, _, _, rfl, ⟨p14, _, _, rfl, m14, L, ⟨p2, rfl, oth⟩⟩, rfl⟩
  · have f1 : ∀ n, Ex.fine (n + 1) (.num (1000000000000000000000000000000 - 3 + d1)) := fun n => fineN (by omega) (by omega)
    have f2 : ∀ n, Ex.fine (n + 1) (.num d2) := fun n => fineN (by omega) (by omega)
    have f0 : ∀ n, Ex.fine (n + 1) (.num 0) := fun n => fineN (by omega) (by omega)
    have fL : ∀ n, Ex.fine (n + 2) (.op .sub (.num 0) (.num (1000000000000000000000000000000 - 3 + d1))) := fun n => ⟨f0 n, f1 n⟩
    intro e he
    simp only [List.mem_cons, List.not_mem_nil, or_false] at he
    rcases he with rfl | rfl | rfl | rfl | rfl | rfl
    · exact ⟨f1 4, f2 4⟩
    · exact ⟨fL 3, f2 4⟩
    · exact ⟨fineN (by omega) (by omega), fineN (by omega) (by omega)⟩
    · exact ⟨fL 3, f2 4⟩
    · exact ⟨⟨f1 3, f2 3⟩, f0 4⟩
    · exact ⟨fL 3, f2 4⟩
end
end SH

set_option Elab.async false
set_option linter.all false
set_option maxRecDepth 100000
namespace SH
open PySem L2
abbrev sRight : Stmt := topS 116
theorem scRight : FnScope ["_law_row", "_law_names_here", "_law_args_here", "_law_room", "_law_works", "_law_held", "_law_word", "_law_found", "_law_result", "_law_due", "_law_told_here"] ["_law_row", "_law_names_here", "_law_args_here", "_law_room"] (defScope sRight) := ⟨rfl, rfl, rfl, by decide +kernel, rfl, by decide +kernel, by decide +kernel⟩
/-- a work of one row that gives or fails -/
def oneW (nm : List Str) (rm : Int) (wb : Bool) (e : Ex) : Wk := ⟨"f", nm, rm, .give wb e .nil⟩
def resOf (wb : Bool) : Except Int Wt → Rz
  | .error n => .fails n
  | .ok (.num i) => if wb = true then .fails i else .gives (.num i)
  | .ok (.fut p) => if wb = true then .fails (-2) else .gives (.fut p)
theorem try_one (nm : List Str) (rm : Int) (wb : Bool) (e : Ex) (args : List Int) : tryRow [oneW nm rm wb e] [] (mainT (oneW nm rm wb e) args) = ({ mainT (oneW nm rm wb e) args with frs := [], res := some (resOf wb (e.ev (envOf nm (args.map Wt.num)))) }, none) := by
  have efr : (mainT (oneW nm rm wb e) args).frs = mkFr (oneW nm rm wb e) (args.map Wt.num) 1 0 :: [] := rfl
  have hk : nxt (mkFr (oneW nm rm wb e) (args.map Wt.num) 1 0).ks = (.give wb e, [.nil]) := rfl
  cases wb with
  | false =>
    cases h : e.ev (envOf nm (args.map Wt.num)) with
    | error n => exact (do_err efr (by rw [hk]; show (e.ev (envOf nm (args.map Wt.num))).bind _ = _; rw [h]; rfl)).1
    | ok x =>
      rw [(do_ok (r := (gave (mainT (oneW nm rm false e) args) x [], none)) efr (by rw [hk]; show (e.ev (envOf nm (args.map Wt.num))).bind _ = _; rw [h]; rfl)).1]
      cases x <;> rfl
  | true =>
    cases h : e.ev (envOf nm (args.map Wt.num)) with
    | error n => exact (do_err efr (by rw [hk]; show ((e.ev (envOf nm (args.map Wt.num))).bind asNum).bind _ = _; rw [h]; rfl)).1
    | ok x =>
      cases x with
      | num i => exact (do_err efr (by rw [hk]; show ((e.ev (envOf nm (args.map Wt.num))).bind asNum).bind _ = _; rw [h]; rfl)).1
      | fut p => exact (do_err efr (by rw [hk]; show ((e.ev (envOf nm (args.map Wt.num))).bind asNum).bind _ = _; rw [h]; rfl)).1
theorem run_one (nm : List Str) (rm : Int) (wb : Bool) (e : Ex) (args : List Int) (h0 : 0 ≤ rm) : ∃ nd : Nd, runS [oneW nm rm wb e] 400 [mainT (oneW nm rm wb e) args] [] = some ([nd], [([], resOf wb (e.ev (envOf nm (args.map Wt.num))))]) ∧ mostOf (mainT (oneW nm rm wb e) args) [nd] = rm := by
  have ht := try_one nm rm wb e args
  have hs : stepS [oneW nm rm wb e] [] (mainT (oneW nm rm wb e) args) [] = ([], [([], resOf wb (e.ev (envOf nm (args.map Wt.num))))]) := by
    unfold stepS stepT
    rw [ht]
    rfl
  refine ⟨nodeOf [oneW nm rm wb e] [] (mainT (oneW nm rm wb e) args), ?_, ?_⟩
  · rw [show (400 : Nat) = 399 + 1 from rfl, runS_step, hs]
    rfl
  · have hc : (nodeOf [oneW nm rm wb e] [] (mainT (oneW nm rm wb e) args)).ch = 0 - roomT (mainT (oneW nm rm wb e) args) := by
      unfold nodeOf
      rw [ht]
      rfl
    have hr : roomT (mainT (oneW nm rm wb e) args) = rm := by show rm + 0 = rm; omega
    show mostT (roomT (mainT (oneW nm rm wb e) args)) (roomT (mainT (oneW nm rm wb e) args)) [(nodeOf [oneW nm rm wb e] [] (mainT (oneW nm rm wb e) args)).ch] = rm
    rw [hc, hr]
    show (if rm + (0 - rm) > rm then rm + (0 - rm) else rm) = rm
    rw [if_neg (by omega)]
theorem nmF : NmOk "f" := ⟨⟨by decide +kernel, by decide +kernel, by decide +kernel⟩, by decide +kernel⟩
theorem oneOk {nm : List Str} {rm : Int} {wb : Bool} {e : Ex} (few : nm.length ≤ 4) (hn : ∀ s ∈ nm, NmOk s) (nd : nm.Nodup) (r0 : 0 ≤ rm) (r1 : rm ≤ 1000) (fe : Ex.fine 6 e) : WksOk [oneW nm rm wb e] := by
  refine ⟨by show 1 ≤ 12; decide, fun W hW => ?_, List.nodup_cons.mpr ⟨fun h => (by cases h), .nil⟩, fun W hW st hs => ?_⟩
  · cases List.mem_singleton.mp hW
    exact ⟨nmF, few, hn, nd, r0, r1, ⟨fe, trivial⟩, by show 1 + 0 ≤ 40; decide⟩
  · cases List.mem_singleton.mp hW
    cases hs
theorem numEnv {nm : List Str} {args : List Int} {e : Ex} {x : Wt} (h : e.ev (envOf nm (args.map Wt.num)) = .ok x) : ∃ i, x = .num i := by
  cases x with
  | num i => exact ⟨i, rfl⟩
  | fut p =>
    obtain ⟨s, hs⟩ := ev_fut h
    obtain ⟨i, _, z⟩ := List.mem_map.mp (envOf_mem hs)
    cases z
def dueD (z : Rz) (rm : Int) : PyData := .tuple [rzD z, .int 1, .int rm, .list [.tuple [pathD [], rzD z]]]
theorem told_one (z : Rz) (rm : Int) : toldD z 1 rm [([], z)] = dueD z rm := by
  unfold toldD dueD
  have : sortDs ([(([] : List Int), z)].map endD) = [.tuple [pathD [], rzD z]] := by
    unfold sortDs
    simp [endD, List.mergeSort]
  rw [this]
theorem alikeOne {x : PyData} (h : PySem.W.alike x x = true) : PySem.W.AllAlike [x] := fun d hd d' hd' => by
  cases List.mem_singleton.mp hd
  cases List.mem_singleton.mp hd'
  exact h
mutual
theorem dpSame {K : PySem.W.Frag} {H H' : Hp} (s : Same H H') : ∀ {d : PyData} {v : V}, Dp K H v d → Dp K H' v d
  | .none, _, .non => .non
  | .bool _, _, .bl b => .bl b
  | .int _, _, .int i => .int i
  | .str _, _, .str x => .str x
  | .list _, _, .lst h q => .lst (s.seq h) (dpsSame s q)
  | .tuple _, _, .tup h q => .tup (Same.kpT s _ _ h) (dpsSame s q)
theorem dpsSame {K : PySem.W.Frag} {H H' : Hp} (s : Same H H') : ∀ {ds : List PyData} {vs : List V}, DpAll K H vs ds → DpAll K H' vs ds
  | [], _, .nil => .nil
  | _ :: _, _, .cons a b => .cons (dpSame s a) (dpsSame s b)
end
theorem dueAt {K : PySem.W.Frag} {G : Hp} {pres pe pp lp pd : Addr} {z : Rz} {rm : Int} (d : Dp K G (.ref pres) (rzD z)) (n1 : G pe = none) (n2 : upd G pe (.tup []) pp = none) (n3 : upd (upd G pe (.tup [])) pp (.tup [V.ref pe, .ref pres]) lp = none) (n4 : upd (upd (upd G pe (.tup [])) pp (.tup [V.ref pe, .ref pres])) lp (.lst [V.ref pp]) pd = none) :
    ∃ G6, G6 = upd (upd (upd (upd G pe (.tup [])) pp (.tup [V.ref pe, .ref pres])) lp (.lst [V.ref pp])) pd (.tup [V.ref pres, .int 1, .int rm, .ref lp]) ∧ Same G G6 ∧ Dp K G6 (.ref pd) (dueD z rm) := by
  have y1 := same_new n1 (.tup [])
  have y2 := same_new n2 (.tup [V.ref pe, .ref pres])
  have y3 := same_new n3 (.lst [V.ref pp])
  have y4 := same_new n4 (.tup [V.ref pres, .int 1, .int rm, .ref lp])
  have s6 := y1.trans (y2.trans (y3.trans y4))
  have kpe := (y2.trans (y3.trans y4)) _ _ (upd_same (H := G) (a := pe) (o := .tup []))
  have kpp := (y3.trans y4) _ _ (upd_same (H := upd G pe (.tup [])) (a := pp) (o := .tup [V.ref pe, .ref pres]))
  have klp := y4 _ _ (upd_same (H := upd (upd G pe (.tup [])) pp (.tup [V.ref pe, .ref pres])) (a := lp) (o := .lst [V.ref pp]))
  have d6 := dpS s6 (only_rz z) d
  exact ⟨_, rfl, s6, .tup (SqT.of upd_same) (.cons d6 (.cons (.int _) (.cons (.int _) (.cons (.lst (SqL.of klp) (.cons (.tup (SqT.of kpp) (.cons (pthDp (p := []) kpe) (.cons d6 .nil))) .nil)) .nil))))⟩
theorem due_ok {z : Rz} {rm i : Int} (hz : z = .gives (.num i) ∨ z = .fails i) (io : nOk i) (r0 : 0 ≤ rm) (r1 : rm ≤ 1000) : SeqAt.shaped (dueD z rm) = true ∧ PyData.eqv (dueD z rm) (dueD z rm) = true ∧ (dueD z rm).showable = true ∧ (dueD z rm).hasDict = false ∧ (dueD z rm).depth ≤ 60 ∧ (dueD z rm).shown.length ≤ sizeLine := by
  have hM : mostN < 2 ^ 100 := by decide +kernel
  have hi : i.natAbs < 2 ^ 100 := Nat.lt_of_le_of_lt io hM
  have n0 : ∀ {n : Nat}, Nice (n + 1) (3 + 0) (pathD []) := nice_tup Nices.nil
  have nz : Nice 2 120 (rzD z) := by
    rcases hz with rfl | rfl
    · exact (nice_tup (n := 1) (.cons (nice_lit (m := 7) (by decide +kernel) (by decide +kernel)) (.cons (nice_int hi) .nil))).up (by omega) (by omega)
    · exact (nice_tup (n := 1) (.cons (nice_lit (m := 7) (by decide +kernel) (by decide +kernel)) (.cons (nice_int hi) .nil))).up (by omega) (by omega)
  have ne : Nice 3 140 (.tuple [pathD [], rzD z]) := (nice_tup (n := 2) (.cons n0 (.cons nz .nil))).up (by omega) (by omega)
  have n1 : Nice 3 101 (.int 1) := nice_int (by decide)
  have nr : Nice 3 101 (.int rm) := nice_int (by have : (1000 : Nat) < 2 ^ 100 := by decide +kernel
                                                 omega)
  have lay : PySem.PyData.canLay0 (dueD z rm) = true := by
    show (PySem.PyData.canLay0 (rzD z) && (PySem.PyData.canLay0 (.int 1) && (PySem.PyData.canLay0 (.int rm) && ((PySem.PyData.canLay0 (.tuple [pathD [], rzD z]) && true) && true)))) = true
    rw [nz.lay, n1.lay, nr.lay, ne.lay]
    rfl
  have dep : (dueD z rm).depth ≤ 60 := by
    have a := nz.dep
    have b := n1.dep
    have c := nr.dep
    have d := ne.dep
    show max (rzD z).depth (max (PyData.int 1).depth (max (PyData.int rm).depth (max (max (PyData.tuple [pathD [], rzD z]).depth 0 + 1) 0))) + 1 ≤ 60
    omega
  refine ⟨?_, SeqAt.eqv_refl _ lay, ?_, ?_, dep, ?_⟩
  · unfold SeqAt.shaped
    rw [lay, decide_eq_true (Nat.le_trans dep (by decide))]
    rfl
  · show ((rzD z).showable && ((PyData.int 1).showable && ((PyData.int rm).showable && (((PyData.tuple [pathD [], rzD z]).showable && true) && true)))) = true
    rw [nz.sh, n1.sh, nr.sh, ne.sh]
    rfl
  · show ((rzD z).hasDict || ((PyData.int 1).hasDict || ((PyData.int rm).hasDict || (((PyData.tuple [pathD [], rzD z]).hasDict || false) || false)))) = false
    rw [nz.nd, n1.nd, nr.nd, ne.nd]
    rfl
  · have t := tuple_len [(rzD z).shown, (PyData.int 1).shown, (PyData.int rm).shown, listText [(PyData.tuple [pathD [], rzD z]).shown]]
    have l := list_len [(PyData.tuple [pathD [], rzD z]).shown]
    simp only [List.map_cons, List.map_nil, List.sum_cons, List.sum_nil] at t l
    have a := nz.sz
    have b := n1.sz
    have c := nr.sz
    have d := ne.sz
    have hs : sizeLine = 16777216 := by decide
    show (tupleText [(rzD z).shown, (PyData.int 1).shown, (PyData.int rm).shown, listText [(PyData.tuple [pathD [], rzD z]).shown]]).length ≤ sizeLine
    omega
theorem keepDue {K : PySem.W.Frag} {G G' : Hp} {pd : Addr} {z : Rz} {rm : Int} (s : Same G G') (d : Dp K G (.ref pd) (dueD z rm)) : Dp K G' (.ref pd) (dueD z rm) := dpSame s d
def spRight (K : PySem.W.Frag) : Sp := fun vs H Q _ => ∃ (a ln la : Addr) (tv : V) (e : Ex) (wb : Bool) (nm : List Str) (args : List Int) (rm : Int), vs = [.ref a, .ref ln, .ref la, .int rm] ∧ H a = some (.tup [.str (giveW wb), tv]) ∧ TrIn H e tv ∧ Ex.fine 6 e ∧ H ln = some (.lst (nm.map V.str)) ∧ nm.length ≤ 4 ∧ (∀ s ∈ nm, NmOk s) ∧ nm.Nodup ∧ H la = some (.lst (args.map V.int)) ∧ args.length = nm.length ∧ (∀ x ∈ args, x.natAbs ≤ mostN) ∧ 0 ≤ rm ∧ rm ≤ 1000 ∧ ∀ H', Same H H' → Q (.bl true) H'
section
variable {P : Program} {w : World} {K : PySem.W.Frag} {mg : Str → Option Value} {base : Heap}
set_option maxHeartbeats 2000000 in
theorem ok_right {f a1 a2 : Addr} {fd d1 d2 : FuncData} (F : Fun K "_law_is_right" "_law_is_right" sRight f fd) (VA : Fk P w K mg base 6 "_law_value" a1 d1 ["_law_tree_here", "_law_held"] (spValue 6)) (TO : Fk P w K mg base 28 "_law_told" a2 d2 ["_law_works", "_law_args_here"] (spTold K)) (T : Bi mg) (mt : mg "tuple" = none) (mtl : mg "list" = none) (q_zip : mg "zip" = none) (q_dict : mg "dict" = none) (q_repr : mg "repr" = none) :
    FnG P w K mg base 29 f fd ["_law_row", "_law_names_here", "_law_args_here", "_law_room"] (spRight K) := by
  refine okG F scRight (fun vs H Q E h => ?_) (fun cdv A outer s H vs Q E gd hr h => ?_)
  · obtain ⟨a, ln, la, tv, e, wb, nm, args, rm, rfl, _⟩ := h
    rfl
  obtain ⟨a, ln, la, tv, e, wb, nm, args, rm, rfl, ha, hT, fe, hln, few, hn, nd, hla, ll, hN, r0, r1, q⟩ := h
  refine ⟨_, (pss_cons (ps_set (i := 4) scRight.nd rfl (Or.inl rfl) (pe_lst (pa_cons (pe_tup (pa_cons pe_str (pa_cons pe_str (pa_cons (pe_callTy call_tuple_of (by rfl) mt (by decide +kernel) (pa_cons (pv 1) pa_nil)) (pa_cons (pv 3) (pa_cons (pe_tup (pa_cons (pv 0) pa_nil)) pa_nil)))))) pa_nil)))
    (pss_cons (ps_set (i := 5) scRight.nd rfl (Or.inl rfl) (pe_callTy (call_dictP rfl) (by rfl) q_dict (by decide +kernel) (pa_cons (pe_listZip (by rfl) mtl (by rfl) q_zip (pa_cons (pv 1) (pa_cons (pv 2) pa_nil))) pa_nil)))
    (pss_cons (ps_asg (pe_call VA.G (hr.mono (by omega)) (by rfl) VA.m VA.k VA.b .nil pass0 (pa_cons (pe_ix ix_tup (pv 0) pe_int (fun _ _ => rfl)) (pa_cons (pv 5) pa_nil))) (pg_tup rfl (pgs_cons (pg_name (i := 6) scRight.nd rfl (.inl rfl)) (pgs_cons (pg_name (i := 7) scRight.nd rfl (.inl rfl)) pgs_nil))))
    (pss_cons (ps_set (i := 8) scRight.nd rfl (Or.inl rfl) (pe_tup (pa_cons (pe_ix ix_list (pe_lst (pa_cons pe_str (pa_cons pe_str pa_nil))) (pe_callTy call_int1 (by rfl) T.int (by decide +kernel) (pa_cons (pe_and (pe_cmpR op_eq (pv 6) pe_str (nomark _)) (pe_one (pe_cmpR op_eq (pe_ix ix_tup (pv 0) pe_int (fun _ _ => rfl)) pe_str (nomark _)))) pa_nil)) (fun _ _ => rfl)) (pa_cons (pv 7) pa_nil))))
    (pss_cons (ps_set (i := 9) scRight.nd rfl (Or.inl rfl) (pe_tup (pa_cons (pv 8) (pa_cons pe_int (pa_cons (pv 3) (pa_cons (pe_lst (pa_cons (pe_tup (pa_cons (pe_tup pa_nil) (pa_cons (pv 8) pa_nil))) pa_nil)) pa_nil))))))
    (pss_cons (ps_set (i := 10) scRight.nd rfl (Or.inl rfl) (pe_call TO.G (hr.mono (by omega)) (by rfl) TO.m TO.k TO.b .nil pass0 (pa_cons (pv 4) (pa_cons (pe_callTy call_list_of (by rfl) mtl (by decide +kernel) (pa_cons (pv 2) pa_nil)) pa_nil))))
    (pss_one (ps_ret (pe_and (pe_cmpR (op_eqD hr.units) (pv 10) (pv 9) (nomark _)) (pe_one (pe_cmpR op_eq (pe_callB (call_reprD gd hr.units) (by rfl) q_repr (by decide +kernel) (pa_cons (pv 10) pa_nil)) (pe_callB (call_reprD gd hr.units) (by rfl) q_repr (by decide +kernel) (pa_cons (pv 9) pa_nil)) (nomark _)))))))))))), ?_⟩
  refine ⟨_, rfl, ln, _, rfl, .inl ⟨SqL.of hln, fun pn npn => ⟨_, rfl, _, rfl, (by show 1 ≤ sizeLine; decide), fun pr npr => ⟨(by show 5 ≤ sizeLine; decide), fun pw npw => ⟨(by show 1 ≤ sizeLine; decide), fun lw nlw => ?_⟩⟩⟩⟩⟩
  have z1 := same_new npn (.tup (nm.map V.str))
  have z2 := same_new npr (.tup [V.ref a])
  have z3 := same_new npw (.tup [V.str "work", .str "f", .ref pn, .int rm, .ref pr])
  have z4 := same_new nlw (.lst [V.ref pw])
  have s0 := z1.trans (z2.trans (z3.trans z4))
  have hpn := (z2.trans (z3.trans z4)) _ _ (upd_same (H := H) (a := pn) (o := .tup (nm.map V.str)))
  have hpr := (z3.trans z4) _ _ (upd_same (H := upd H pn (.tup (nm.map V.str))) (a := pr) (o := .tup [V.ref a]))
  have hpw := z4 _ _ (upd_same (H := upd (upd H pn (.tup (nm.map V.str))) pr (.tup [V.ref a])) (a := pw) (o := .tup [V.str "work", .str "f", .ref pn, .int rm, .ref pr]))
  have hlw := upd_same (H := upd (upd (upd H pn (.tup (nm.map V.str))) pr (.tup [V.ref a])) pw (.tup [V.str "work", .str "f", .ref pn, .int rm, .ref pr])) (a := lw) (o := .lst [V.ref pw])
  generalize upd (upd (upd (upd H pn (.tup (nm.map V.str))) pr (.tup [V.ref a])) pw (.tup [V.str "work", .str "f", .ref pn, .int rm, .ref pr])) lw (.lst [V.ref pw]) = G0 at s0 hpn hpr hpw hlw ⊢
  have W0 : WksIn G0 [oneW nm rm wb e] [V.ref pw] := ⟨rfl, fun i v hv => by
    cases i with
    | zero =>
      cases hv
      exact ⟨_, rfl, pw, pn, pr, [V.ref a], rfl, hpw, hpn, hpr, a, tv, [], rfl, s0 _ _ ha, hT.same s0, rfl⟩
    | succ i => cases hv⟩
  have hs : sizeLine = 16777216 := by decide
  refine ⟨_, rfl, _, rfl, ln, la, _, _, rfl, .inl (SqL.of (s0 _ _ hln)), SqL.of (s0 _ _ hla), by rw [List.length_map]; omega, by rw [List.length_map]; omega, fun L Ts G1 s1 nL hL lT hTs => ?_⟩
  refine ⟨L, Ts, (nm.zip (args.map V.int)).map (fun p => (Sum.inr p.1, p.2)), rfl, SqL.of hL, ?_, fun d nd' => ?_⟩
  · refine pairedOf (by rw [lT]; simp) fun j T kv hT' hk => ?_
    obtain ⟨u, v, hu, hv, _, hTj⟩ := hTs j T hT'
    rw [List.getElem?_map] at hu hk
    cases hz : (nm.zip (args.map V.int))[j]? with
    | none => rw [hz] at hk; cases hk
    | some pr' =>
      obtain ⟨x, y⟩ := pr'
      rw [hz] at hk
      cases hk
      obtain ⟨q1, q2⟩ := List.getElem?_zip_eq_some.mp hz
      rw [q1] at hu
      cases hu
      rw [q2] at hv
      cases hv
      exact SqT.of hTj
  have em : mergeK [] ((nm.zip (args.map V.int)).map (fun p => (Sum.inr p.1, p.2))) = (nm.zip (args.map V.int)).map (fun p => (Sum.inr p.1, p.2)) := by
    rw [mergeNd]
    · rfl
    · rw [List.nil_append, List.map_map]
      have : (Prod.fst ∘ fun p : Str × V => ((Sum.inr (α := Int) p.1, p.2) : Key × V)) = (fun s => Sum.inr s) ∘ Prod.fst := rfl
      rw [this, ← List.map_map, List.map_fst_zip (by rw [List.length_map]; omega)]
      exact List.Pairwise.map _ (fun a b ne e => ne (Sum.inr.inj e)) nd
  rw [em]
  have s2 := same_new nd' (.dK ((nm.zip (args.map V.int)).map (fun p => (Sum.inr p.1, p.2))))
  have hd := upd_same (H := G1) (a := d) (o := .dK ((nm.zip (args.map V.int)).map (fun p => (Sum.inr p.1, p.2))))
  generalize upd G1 d (.dK ((nm.zip (args.map V.int)).map (fun p => (Sum.inr p.1, p.2)))) = G2 at s2 hd ⊢
  have s02 := s0.trans (s1.trans s2)
  have hE : EnvIn G2 d (envOf nm (args.map Wt.num)) := ⟨_, hd, envOf_at (WtsIn.nums G2 args) (fun y hy => by obtain ⟨i, hi, z⟩ := List.mem_map.mp hy; rw [← z]; exact hN i hi)⟩
  refine ⟨_, rfl, a, _, 1, _, rfl, rfl, SqT.of (s02 _ _ ha), atI_nat (j := 1) rfl, _, rfl, tv, d, e, _, rfl, hT.same s02, Ex.low_fine fe, hE, fun p G3 s3 told => ?_⟩
  have s03 := s02.trans s3
  obtain ⟨nd1', hrun, hmost⟩ := run_one nm rm wb e args r0
  have wok := oneOk (wb := wb) few hn nd r0 r1 fe
  -- what was found, and how it is told
  have key : ∃ (wd : Str) (i : Int) (z : Rz), G3 p = some (.tup [.str wd, .int i]) ∧ resOf wb (e.ev (envOf nm (args.map Wt.num))) = z ∧ nOk i ∧ ((wd = "ok" ∧ wb = false ∧ z = .gives (.num i)) ∨ (wd = "ok" ∧ wb = true ∧ z = .fails i) ∨ (wd = "bad" ∧ z = .fails i)) := by
    cases h : e.ev (envOf nm (args.map Wt.num)) with
    | error n =>
      rw [h] at told
      exact ⟨"bad", n, _, told, rfl, Ex.ev_err h, .inr (.inr ⟨rfl, rfl⟩)⟩
    | ok x =>
      rw [h] at told
      obtain ⟨i, rfl⟩ := numEnv h
      obtain ⟨v, hv, hp⟩ := told
      cases hv
      have io : nOk i := Ex.ev_ok hE.oks 6 e _ (Ex.low_fine fe) h
      cases wb with
      | false => exact ⟨"ok", i, _, hp, rfl, io, .inl ⟨rfl, rfl, rfl⟩⟩
      | true => exact ⟨"ok", i, _, hp, rfl, io, .inr (.inl ⟨rfl, rfl, rfl⟩)⟩
  obtain ⟨wd, i, z, hp, ez, iok, key⟩ := key
  rw [ez] at hrun
  refine ⟨p, _, rfl, SqT.of hp, rfl, _, _, rfl, _, _, rfl, rfl, ?_⟩
  refine ⟨(by show 2 ≤ sizeLine; decide), fun lf nlf => ?_⟩
  have s4 := same_new nlf (.lst [V.str "fails", .str "gives"])
  have hlf := upd_same (H := G3) (a := lf) (o := .lst [V.str "fails", .str "gives"])
  generalize upd G3 lf (.lst [V.str "fails", .str "gives"]) = G4 at s4 hlf ⊢
  have s04 := s03.trans s4
  refine ⟨_, rfl, rfl, _, rfl, ?_⟩
  rcases key with ⟨rfl, rfl, hz⟩ | ⟨rfl, rfl, hz⟩ | ⟨rfl, hz⟩
  · rw [decide_eq_true rfl]
    refine iteT ⟨_, rfl, a, _, 0, _, rfl, rfl, SqT.of (s04 _ _ ha), atI_nat (j := 0) rfl, rfl, .inr ⟨_, rfl, lf, _, _, _, rfl, rfl, SqL.of hlf, (by decide +kernel : atI [V.str "fails", .str "gives"] (if decide (V.str (giveW false) = V.str "give") = true then (1 : Int) else 0) = some (.str "gives")), _, rfl, (by show 2 ≤ sizeLine; decide), fun pres npres => ?_⟩⟩
    have s5 := same_new npres (.tup [V.str "gives", .int i])
    have k5 := upd_same (H := G4) (a := pres) (o := .tup [V.str "gives", .int i])
    have dres : Dp K (upd G4 pres (.tup [V.str "gives", .int i])) (.ref pres) (rzD z) := by
      rw [hz]
      exact .tup (SqT.of k5) (.cons (.str _) (.cons (.int _) .nil))
    generalize upd G4 pres (.tup [V.str "gives", .int i]) = G5 at s5 k5 dres ⊢
    clear k5
    refine ⟨_, rfl, _, rfl, (by show 0 ≤ sizeLine; decide), fun pe npe => ⟨_, rfl, (by show 2 ≤ sizeLine; decide), fun pp npp => ⟨(by show 1 ≤ sizeLine; decide), fun lp nlp => ⟨(by show 4 ≤ sizeLine; decide), fun pd npd => ?_⟩⟩⟩⟩
    obtain ⟨G6, eG, s6, ddue⟩ := dueAt (K := K) (z := z) (rm := rm) dres npe npp nlp npd
    rw [← eG]
    have s06 := s04.trans (s5.trans s6)
    have sG06 := s1.trans (s2.trans (s3.trans (s4.trans (s5.trans s6))))
    refine ⟨_, rfl, _, rfl, la, _, rfl, .inl (SqL.of (s06 _ _ hla)), fun lc nlc => ?_⟩
    have s7 := same_new nlc (.lst (args.map V.int))
    have klc := upd_same (H := G6) (a := lc) (o := .lst (args.map V.int))
    generalize upd G6 lc (.lst (args.map V.int)) = G7 at s7 klc ⊢
    refine ⟨lw, lc, [V.ref pw], [oneW nm rm _ e], oneW nm rm _ e, args, _, z, rfl, (sG06.trans s7) _ _ hlw, W0.same (sG06.trans s7), wok, List.mem_singleton.mpr rfl, rfl, klc, ll, hN, hrun, rfl, (by show 1 ≤ 100000; decide), List.nodup_cons.mpr ⟨fun h => (by cases h), .nil⟩, alikeOne (by rw [hz]; rfl), fun pt G8 s8 dtold => ?_⟩
    have dt2 : Dp K G8 (.ref pt) (toldD z 1 rm [([], z)]) := by
      have h8 := dtold
      rw [hmost] at h8
      exact h8
    rw [told_one] at dt2
    have ddue8 := keepDue s8 (keepDue s7 ddue)
    have D := due_ok (z := z) (rm := rm) (i := i) (by first | exact .inl hz | exact .inr hz) iok r0 r1
    refine ⟨_, rfl, _, rfl, _, _, dt2, ddue8, D.1, D.1, ?_⟩
    rw [D.2.1]
    refine ⟨_, rfl, iteT ⟨_, rfl, pt, _, rfl, dt2, D.2.2.1, D.2.2.2.1, D.2.2.2.2.1, D.2.2.2.2.2, _, rfl, pd, _, rfl, ddue8, D.2.2.1, D.2.2.2.1, D.2.2.2.2.1, D.2.2.2.2.2, rfl, ?_⟩⟩
    rw [decide_eq_true rfl]
    exact q G8 (s06.trans (s7.trans s8))
  · rw [decide_eq_true rfl]
    refine iteT ⟨_, rfl, a, _, 0, _, rfl, rfl, SqT.of (s04 _ _ ha), atI_nat (j := 0) rfl, rfl, .inr ⟨_, rfl, lf, _, _, _, rfl, rfl, SqL.of hlf, (by decide +kernel : atI [V.str "fails", .str "gives"] (if decide (V.str (giveW true) = V.str "give") = true then (1 : Int) else 0) = some (.str "fails")), _, rfl, (by show 2 ≤ sizeLine; decide), fun pres npres => ?_⟩⟩
    have s5 := same_new npres (.tup [V.str "fails", .int i])
    have k5 := upd_same (H := G4) (a := pres) (o := .tup [V.str "fails", .int i])
    have dres : Dp K (upd G4 pres (.tup [V.str "fails", .int i])) (.ref pres) (rzD z) := by
      rw [hz]
      exact .tup (SqT.of k5) (.cons (.str _) (.cons (.int _) .nil))
    generalize upd G4 pres (.tup [V.str "fails", .int i]) = G5 at s5 k5 dres ⊢
    clear k5
    refine ⟨_, rfl, _, rfl, (by show 0 ≤ sizeLine; decide), fun pe npe => ⟨_, rfl, (by show 2 ≤ sizeLine; decide), fun pp npp => ⟨(by show 1 ≤ sizeLine; decide), fun lp nlp => ⟨(by show 4 ≤ sizeLine; decide), fun pd npd => ?_⟩⟩⟩⟩
    obtain ⟨G6, eG, s6, ddue⟩ := dueAt (K := K) (z := z) (rm := rm) dres npe npp nlp npd
    rw [← eG]
    have s06 := s04.trans (s5.trans s6)
    have sG06 := s1.trans (s2.trans (s3.trans (s4.trans (s5.trans s6))))
    refine ⟨_, rfl, _, rfl, la, _, rfl, .inl (SqL.of (s06 _ _ hla)), fun lc nlc => ?_⟩
    have s7 := same_new nlc (.lst (args.map V.int))
    have klc := upd_same (H := G6) (a := lc) (o := .lst (args.map V.int))
    generalize upd G6 lc (.lst (args.map V.int)) = G7 at s7 klc ⊢
    refine ⟨lw, lc, [V.ref pw], [oneW nm rm _ e], oneW nm rm _ e, args, _, z, rfl, (sG06.trans s7) _ _ hlw, W0.same (sG06.trans s7), wok, List.mem_singleton.mpr rfl, rfl, klc, ll, hN, hrun, rfl, (by show 1 ≤ 100000; decide), List.nodup_cons.mpr ⟨fun h => (by cases h), .nil⟩, alikeOne (by rw [hz]; rfl), fun pt G8 s8 dtold => ?_⟩
    have dt2 : Dp K G8 (.ref pt) (toldD z 1 rm [([], z)]) := by
      have h8 := dtold
      rw [hmost] at h8
      exact h8
    rw [told_one] at dt2
    have ddue8 := keepDue s8 (keepDue s7 ddue)
    have D := due_ok (z := z) (rm := rm) (i := i) (by first | exact .inl hz | exact .inr hz) iok r0 r1
    refine ⟨_, rfl, _, rfl, _, _, dt2, ddue8, D.1, D.1, ?_⟩
    rw [D.2.1]
    refine ⟨_, rfl, iteT ⟨_, rfl, pt, _, rfl, dt2, D.2.2.1, D.2.2.2.1, D.2.2.2.2.1, D.2.2.2.2.2, _, rfl, pd, _, rfl, ddue8, D.2.2.1, D.2.2.2.1, D.2.2.2.2.1, D.2.2.2.2.2, rfl, ?_⟩⟩
    rw [decide_eq_true rfl]
    exact q G8 (s06.trans (s7.trans s8))
  · refine iteF (.inr ⟨_, rfl, lf, _, _, _, rfl, rfl, SqL.of hlf, (by decide +kernel : atI [V.str "fails", .str "gives"] (if decide (V.str "bad" = V.str "ok") = true then (1 : Int) else 0) = some (.str "fails")), _, rfl, (by show 2 ≤ sizeLine; decide), fun pres npres => ?_⟩)
    have s5 := same_new npres (.tup [V.str "fails", .int i])
    have k5 := upd_same (H := G4) (a := pres) (o := .tup [V.str "fails", .int i])
    have dres : Dp K (upd G4 pres (.tup [V.str "fails", .int i])) (.ref pres) (rzD z) := by
      rw [hz]
      exact .tup (SqT.of k5) (.cons (.str _) (.cons (.int _) .nil))
    generalize upd G4 pres (.tup [V.str "fails", .int i]) = G5 at s5 k5 dres ⊢
    clear k5
    refine ⟨_, rfl, _, rfl, (by show 0 ≤ sizeLine; decide), fun pe npe => ⟨_, rfl, (by show 2 ≤ sizeLine; decide), fun pp npp => ⟨(by show 1 ≤ sizeLine; decide), fun lp nlp => ⟨(by show 4 ≤ sizeLine; decide), fun pd npd => ?_⟩⟩⟩⟩
    obtain ⟨G6, eG, s6, ddue⟩ := dueAt (K := K) (z := z) (rm := rm) dres npe npp nlp npd
    rw [← eG]
    have s06 := s04.trans (s5.trans s6)
    have sG06 := s1.trans (s2.trans (s3.trans (s4.trans (s5.trans s6))))
    refine ⟨_, rfl, _, rfl, la, _, rfl, .inl (SqL.of (s06 _ _ hla)), fun lc nlc => ?_⟩
    have s7 := same_new nlc (.lst (args.map V.int))
    have klc := upd_same (H := G6) (a := lc) (o := .lst (args.map V.int))
    generalize upd G6 lc (.lst (args.map V.int)) = G7 at s7 klc ⊢
    refine ⟨lw, lc, [V.ref pw], [oneW nm rm _ e], oneW nm rm _ e, args, _, z, rfl, (sG06.trans s7) _ _ hlw, W0.same (sG06.trans s7), wok, List.mem_singleton.mpr rfl, rfl, klc, ll, hN, hrun, rfl, (by show 1 ≤ 100000; decide), List.nodup_cons.mpr ⟨fun h => (by cases h), .nil⟩, alikeOne (by rw [hz]; rfl), fun pt G8 s8 dtold => ?_⟩
    have dt2 : Dp K G8 (.ref pt) (toldD z 1 rm [([], z)]) := by
      have h8 := dtold
      rw [hmost] at h8
      exact h8
    rw [told_one] at dt2
    have ddue8 := keepDue s8 (keepDue s7 ddue)
    have D := due_ok (z := z) (rm := rm) (i := i) (by first | exact .inl hz | exact .inr hz) iok r0 r1
    refine ⟨_, rfl, _, rfl, _, _, dt2, ddue8, D.1, D.1, ?_⟩
    rw [D.2.1]
    refine ⟨_, rfl, iteT ⟨_, rfl, pt, _, rfl, dt2, D.2.2.1, D.2.2.2.1, D.2.2.2.2.1, D.2.2.2.2.2, _, rfl, pd, _, rfl, ddue8, D.2.2.1, D.2.2.2.1, D.2.2.2.2.1, D.2.2.2.2.2, rfl, ?_⟩⟩
    rw [decide_eq_true rfl]
    exact q G8 (s06.trans (s7.trans s8))
end
end SH

set_option Elab.async false
set_option linter.all false
set_option maxRecDepth 100000
namespace SH
open PySem L2
abbrev sLaw : Stmt := topS 118
theorem scLaw : FnScope ["_law_script", "_law_k", "_law_bag_here", "_law_names_here", "_law_args_here", "_law_tree_here", "_law_word"] ["_law_script"] (defScope sLaw) := ⟨rfl, rfl, rfl, by decide +kernel, rfl, by decide +kernel, by decide +kernel⟩
structure FkG (P : Program) (w : World) (K : PySem.W.Frag) (mg : Str → Option Value) (base : Heap) (lv : Nat) (x : Str) (f : Addr) (fd : FuncData) (ps : List Str) (sp : Sp) : Prop where
  G : FnG P w K mg base lv f fd ps sp
  m : mg x = some (.ref f)
  k : PySem.W.keepIn K (.ref f) = true
  b : Binds K fd ps []
def spLaw (K : PySem.W.Frag) : Sp := fun vs H Q _ => ∃ (a : Addr) (ns : List Int), vs = [.ref a] ∧ SqL K H a (ns.map V.int) ∧ ns.length ≤ 63 ∧ ∀ H', Q (.bl true) H'
theorem freshB {H0 H1 H2 : Hp} {b : Addr} (s : Same H0 H1) (nb : H0 b = none) (u : But b H1 H2) : Same H0 H2 := fun a o e => u _ _ (fun z => by rw [z, nb] at e; cases e) (s _ _ e)
theorem wordAt {d : Int} (h0 : 0 ≤ d) (h3 : d < 3) : ∃ wb : Bool, atI [V.str "give", .str "give", .str "fail"] d = some (.str (giveW wb)) := by
  have : d = 0 ∨ d = 1 ∨ d = 2 := by omega
  rcases this with rfl | rfl | rfl
  · exact ⟨false, rfl⟩
  · exact ⟨false, rfl⟩
  · exact ⟨true, rfl⟩
section
variable {P : Program} {w : World} {K : PySem.W.Frag} {mg : Str → Option Value} {base : Heap}
theorem ok_law {f fB fT fN fA fR fE fG : Addr} {fd dB dT dN dA dR dE dG : FuncData} (F : Fun K "law" "law" sLaw f fd) (BG : Fk P w K mg base 1 "_law_bag" fB dB ["_law_script", "_law_k"] (spBag K)) (TK : Fk P w K mg base 1 "_law_take" fT dT ["_law_bag_here", "_law_many"] spTake) (NM : Fk P w K mg base 2 "_law_names" fN dN ["_law_bag_here", "_law_many"] spNames) (AR : Fk P w K mg base 3 "_law_args" fA dA ["_law_bag_here", "_law_many"] spArgs)
    (TR : Fk P w K mg base 8 "_law_tree" fR dR ["_law_bag_here", "_law_names_here", "_law_deep"] (spTrees 6)) (ED : Fk P w K mg base 2 "_law_edge" fE dE ["_law_bag_here"] spEdge) (IR : FkG P w K mg base 29 "_law_is_right" fG dG ["_law_row", "_law_names_here", "_law_args_here", "_law_room"] (spRight K)) (T : Bi mg) : FnG P w K mg base 30 f fd ["_law_script"] (spLaw K) := by
  refine okG F scLaw (fun vs H Q E h => ?_) (fun cdv A outer s H vs Q E gd hr h => ?_)
  · obtain ⟨a, ns, rfl, _⟩ := h
    rfl
  obtain ⟨a, ns, rfl, hSc, h63, q⟩ := h
  refine ⟨_, (pss_cons (ps_for PassesOwn.never rfl (pi_range1 (by rfl) T.range (pa_cons (pe_callB (call_max2 rfl) (by rfl) T.max (by decide +kernel) (pa_cons pe_int (pa_cons (pe_callB (call_min2 rfl) (by rfl) T.min (by decide +kernel) (pa_cons pe_int (pa_cons (pe_callB call_len_seq (by rfl) T.len (by decide +kernel) (pa_cons (pv 0) pa_nil)) pa_nil))) pa_nil))) pa_nil)) (pg_name (i := 1) scLaw.nd rfl (.inl rfl))
      (pss_cons (ps_set (i := 2) scLaw.nd rfl (Or.inl rfl) (pe_call BG.G (hr.mono (by omega)) (by rfl) BG.m BG.k BG.b .nil pass0 (pa_cons (pv 0) (pa_cons (pv 1) pa_nil))))
    (pss_cons (ps_set (i := 3) scLaw.nd rfl (Or.inl rfl) (pe_call NM.G (hr.mono (by omega)) (by rfl) NM.m NM.k NM.b .nil pass0 (pa_cons (pv 2) (pa_cons (pe_call TK.G (hr.mono (by omega)) (by rfl) TK.m TK.k TK.b .nil pass0 (pa_cons (pv 2) (pa_cons pe_int pa_nil))) pa_nil))))
    (pss_cons (ps_set (i := 4) scLaw.nd rfl (Or.inl rfl) (pe_call AR.G (hr.mono (by omega)) (by rfl) AR.m AR.k AR.b .nil pass0 (pa_cons (pv 2) (pa_cons (pe_callB call_len_seq (by rfl) T.len (by decide +kernel) (pa_cons (pv 3) pa_nil)) pa_nil))))
    (pss_one (ps_for PassesOwn.never rfl (pi_list (pe_op op_cat (pe_lst (pa_cons (pe_call TR.G (hr.mono (by omega)) (by rfl) TR.m TR.k TR.b .nil pass0 (pa_cons (pv 2) (pa_cons (pv 3) (pa_cons pe_int pa_nil)))) (pa_cons (pe_call TR.G (hr.mono (by omega)) (by rfl) TR.m TR.k TR.b .nil pass0 (pa_cons (pv 2) (pa_cons (pv 3) (pa_cons (pe_op op_add pe_int (pe_call TK.G (hr.mono (by omega)) (by rfl) TK.m TK.k TK.b .nil pass0 (pa_cons (pv 2) (pa_cons pe_int pa_nil)))) pa_nil)))) pa_nil))) (pe_call ED.G (hr.mono (by omega)) (by rfl) ED.m ED.k ED.b .nil pass0 (pa_cons (pv 2) pa_nil)))) (pg_name (i := 5) scLaw.nd rfl (.inl rfl))
      (pss_cons (ps_set (i := 6) scLaw.nd rfl (Or.inl rfl) (pe_ix ix_list (pe_lst (pa_cons pe_str (pa_cons pe_str (pa_cons pe_str pa_nil)))) (pe_call TK.G (hr.mono (by omega)) (by rfl) TK.m TK.k TK.b .nil pass0 (pa_cons (pv 2) (pa_cons pe_int pa_nil))) (fun _ _ => rfl)))
    (pss_one (ps_if (pt_not (pt_val (pe_callG IR.G gd (hr.mono (by omega)) (by rfl) IR.m IR.k IR.b (pa_cons (pe_tup (pa_cons (pv 6) (pa_cons (pv 5) pa_nil))) (pa_cons (pv 3) (pa_cons (pv 4) (pa_cons (pe_call TK.G (hr.mono (by omega)) (by rfl) TK.m TK.k TK.b .nil pass0 (pa_cons (pv 2) (pa_cons pe_int pa_nil))) pa_nil)))))))
      (pss_one (ps_ret pe_bl))
      pss_nil)))))))))
    (pss_one (ps_ret pe_bl))), ?_⟩
  have hs : sizeLine = 16777216 := by decide
  have hnum : ∃ N : Int, N = (if (if ((ns.map V.int).length : Int) < 5 then ((ns.map V.int).length : Int) else 5) > 3 then (if ((ns.map V.int).length : Int) < 5 then ((ns.map V.int).length : Int) else 5) else 3) ∧ 0 ≤ N ∧ N ≤ 5 := by
    refine ⟨_, rfl, ?_, ?_⟩ <;> (split <;> (try split) <;> omega)
  obtain ⟨N, eN, N0, N4⟩ := hnum
  refine ⟨_, rfl, a, _, rfl, .inl hSc, _, _, rfl, _, _, rfl, N, (by rw [eN]), by omega, by omega, ?_⟩
  refine for_range (lo := 0) (n := N.toNat) (fun i σ H' => ∃ (y1 y2 y3 y4 y5 y6 : Option V), σ = [some (.ref a), y1, y2, y3, y4, y5, y6] ∧ Same H H') ?_ ?_ ?_
  · exact ⟨none, none, none, none, none, none, rfl, Same.refl _⟩
  · rintro i σ H1 hi ⟨y1, y2, y3, y4, y5, y6, rfl, sH⟩
    have hi5 : i < 5 := by omega
    refine ⟨_, rfl, _, rfl, a, ns, 0 + (i : Int), rfl, sH.seq hSc, by omega, by omega, fun b H2 s2 nb B2 => ?_⟩
    refine ⟨_, rfl, _, rfl, b, 5, 15999999, rfl, by decide, by decide, B2, fun dn H3 dn0 dn5 B3 U3 => ?_⟩
    obtain ⟨m, rfl⟩ : ∃ m : Nat, dn = (m : Int) := ⟨dn.toNat, by omega⟩
    refine ⟨b, m, 15000000, rfl, by omega, B3.less (by omega), fun ln nm H4 nln hln lnm ok4 B4 U4 => ?_⟩
    obtain ⟨ys2, hb2⟩ := B2.lst
    obtain ⟨ys3, hb3⟩ := B3.lst
    obtain ⟨ys4, hb4⟩ := B4.lst
    have nlnb : ln ≠ b := fun z => by rw [z, hb3] at nln; cases nln
    have lm : (nm.map V.str).length = m := by rw [List.length_map, lnm]
    refine ⟨_, rfl, _, rfl, ln, _, rfl, .inl (SqL.of hln), b, (nm.map V.str).length, 14000000, rfl, by omega, B4.less (by omega), fun la args H5 nla hla lar hN B5 U5 => ?_⟩
    have nlab : la ≠ b := fun z => by rw [z, hb4] at nla; cases nla
    have hln5 := U5 _ _ nlnb hln
    have ok : ∀ s ∈ nm, NmOk s := fun s hs => ok4.each s hs
    refine ⟨_, rfl, _, rfl, 6, Nat.le_refl _, b, ln, nm, 13000000, rfl, hln5, nlnb, by omega, fun s hs => (ok s hs).1, by decide, B5.less (by decide), fun v1 e1 H6 hT1 of1 B6 U6 => ?_⟩
    have hln6 := U6 _ _ nlnb hln5
    obtain ⟨ys6, hb6⟩ := B6.lst
    refine ⟨_, rfl, _, rfl, _, rfl, b, 4, 12999999, rfl, by decide, by decide, B6, fun d4 H7 d40 d44 B7 U7 => ?_⟩
    obtain ⟨k4, rfl⟩ : ∃ k4 : Nat, d4 = (k4 : Int) := ⟨d4.toNat, by omega⟩
    obtain ⟨ys7, hb7⟩ := B7.lst
    have htc : tc (1 + k4) ≤ 1000 := by
      have : k4 = 0 ∨ k4 = 1 ∨ k4 = 2 ∨ k4 = 3 := by omega
      rcases this with rfl | rfl | rfl | rfl <;> decide
    refine ⟨_, _, rfl, rfl, 1 + k4, by omega, b, ln, nm, 12000000, (by show [V.ref b, V.ref ln, V.int (1 + (k4 : Int))] = [V.ref b, V.ref ln, V.int ((1 + k4 : Nat) : Int)]; rw [show (1 : Int) + (k4 : Int) = ((1 + k4 : Nat) : Int) by omega]), U7 _ _ nlnb hln6, nlnb, by omega, fun s hs => (ok s hs).1, by omega, B7.less (by omega), fun v2 e2 H8 hT2 of2 B8 U8 => ?_⟩
    refine ⟨(by show 2 ≤ sizeLine; decide), fun l1 nl1 => ?_⟩
    have z1 := same_new nl1 (.lst [v1, v2])
    have hl1 := upd_same (H := H8) (a := l1) (o := .lst [v1, v2])
    have C8 := B8.same z1
    have hT2' := hT2.same z1
    have hT1' := ((hT1.tups (But.tups hb6 U7)).tups (But.tups hb7 U8)).same z1
    have nl1b : l1 ≠ b := fun z => by obtain ⟨ys, h⟩ := B8.lst; rw [z, h] at nl1; cases nl1
    have V8 : But b H5 (upd H8 l1 (.lst [v1, v2])) := U6.trans (U7.trans (U8.trans (But.of z1)))
    generalize upd H8 l1 (.lst [v1, v2]) = G8 at z1 hl1 C8 hT2' hT1' V8 ⊢
    obtain ⟨ys8, hb8⟩ := C8.lst
    refine ⟨_, rfl, b, 11000000, rfl, C8.less (by decide), fun le us es H9 nle hle hTs fines len6 B9 U9 => ?_⟩
    have lus := TrsIn.len_ hTs
    refine ⟨l1, le, _, _, rfl, rfl, U9 _ _ nl1b hl1, hle, by show 2 + us.length ≤ sizeLine; omega, fun lc nlc => ?_⟩
    have z2 := same_new nlc (.lst ([v1, v2] ++ us))
    have hlc := upd_same (H := H9) (a := lc) (o := .lst ([v1, v2] ++ us))
    have B10 := B9.same z2
    have tA : Tups G8 (upd H9 lc (.lst ([v1, v2] ++ us))) := fun x vs e => z2 _ _ (But.tups hb8 U9 _ _ e)
    have trs : TrsIn (upd H9 lc (.lst ([v1, v2] ++ us))) (e1 :: e2 :: es) ([v1, v2] ++ us) := ⟨v1, _, rfl, hT1'.tups tA, v2, _, rfl, hT2'.tups tA, hTs.same z2⟩
    have nlcb : lc ≠ b := fun z => by obtain ⟨ys, h⟩ := B9.lst; rw [z, h] at nlc; cases nlc
    have V10 : But b H5 (upd H9 lc (.lst ([v1, v2] ++ us))) := V8.trans (U9.trans (But.of z2))
    generalize upd H9 lc (.lst ([v1, v2] ++ us)) = G at hlc B10 trs V10 ⊢
    have fineAll : ∀ e ∈ e1 :: e2 :: es, Ex.fine 6 e := fun e he => by
      rcases List.mem_cons.mp he with z | z
      · rw [z]; exact Ex.of_fine ok of1
      · rcases List.mem_cons.mp z with z | z
        · rw [z]; exact Ex.fine_up (by omega) (Ex.of_fine ok of2)
        · exact fines e z
    have hlnG := V10 _ _ nlnb hln5
    have hlaG := V10 _ _ nlab hla
    have lvs : ([v1, v2] ++ us).length = 8 := by show us.length + 1 + 1 = 8; omega
    refine ⟨lc, rfl, ⟨_, SqL.of hlc⟩, ?_⟩
    refine for_list (K := K) (a := lc) (xs := [v1, v2] ++ us) (fun j σ H' => ∃ (x5 x6 : Option V), σ = [some (.ref a), some (.int (0 + (i : Int))), some (.ref b), some (.ref ln), some (.ref la), x5, x6] ∧ Bag H' b (10000000 - 10 * j) ∧ But b G H') ?_ ?_ ?_ ?_
    · exact ⟨y5, y6, rfl, B10.less (by omega), fun _ _ _ e => e⟩
    · rintro j σ H' _ ⟨_, _, _, _, u⟩
      exact SqL.of (u _ _ nlcb hlc)
    · rintro j v σ K1 hv ⟨x5, x6, rfl, Bj, Uj⟩
      have hj : j < 8 := by have := (List.getElem?_eq_some_iff.mp hv).1; omega
      obtain ⟨e, he, hte⟩ := TrsIn.get_ trs hv
      obtain ⟨ysG, hbG⟩ := B10.lst
      have hteK := hte.tups (But.tups hbG Uj)
      refine ⟨(by show 3 ≤ sizeLine; decide), fun lwd nlwd => ?_⟩
      have w1 := same_new nlwd (.lst [V.str "give", .str "give", .str "fail"])
      have hlwd := upd_same (H := K1) (a := lwd) (o := .lst [V.str "give", .str "give", .str "fail"])
      have Bk := Bj.same w1
      have nlwdb : lwd ≠ b := fun z => by obtain ⟨ys, h⟩ := Bj.lst; rw [z, h] at nlwd; cases nlwd
      have hteW := hteK.same w1
      have Uk : But b G (upd K1 lwd (.lst [V.str "give", .str "give", .str "fail"])) := Uj.trans (But.of w1)
      generalize upd K1 lwd (.lst [V.str "give", .str "give", .str "fail"]) = K2 at w1 hlwd Bk hteW Uk ⊢
      obtain ⟨ysK, hbK⟩ := Bk.lst
      refine ⟨_, rfl, b, 3, 10000000 - 10 * j - 1, rfl, by decide, by decide, Bk.less (by omega), fun dw K3 dw0 dw3 B3' U3' => ?_⟩
      obtain ⟨wb, hat⟩ := wordAt dw0 dw3
      refine ⟨lwd, _, _, _, rfl, rfl, SqL.of (U3' _ _ nlwdb hlwd), hat, ?_⟩
      have hte3 := hteW.tups (But.tups hbK U3')
      refine ⟨_, rfl, _, rfl, (by show 2 ≤ sizeLine; decide), fun pr npr => ?_⟩
      have w2 := same_new npr (.tup [V.str (giveW wb), v])
      have hpr := upd_same (H := K3) (a := pr) (o := .tup [V.str (giveW wb), v])
      have B4' := B3'.same w2
      have hte4 := hte3.same w2
      have U4' : But b G (upd K3 pr (.tup [V.str (giveW wb), v])) := Uk.trans (U3'.trans (But.of w2))
      generalize upd K3 pr (.tup [V.str (giveW wb), v]) = K4 at w2 hpr B4' hte4 U4' ⊢
      obtain ⟨ysR, hbR⟩ := B4'.lst
      refine ⟨_, rfl, _, rfl, _, rfl, b, 1001, 10000000 - 10 * j - 2, rfl, by decide, by decide, B4'.less (by omega), fun dr K5 dr0 dr1 B5' U5' => ?_⟩
      have tR := But.tups hbR U5'
      have UG := U4'.trans U5'
      refine ⟨pr, ln, la, v, e, wb, nm, args, dr, rfl, tR _ _ hpr, hte4.tups tR, fineAll e (List.mem_of_getElem? he), UG _ _ nlnb hlnG, by omega, ok, ok4.nd, UG _ _ nlab hlaG, by omega, hN, dr0, by omega, fun K6 s6 => ?_⟩
      refine ⟨_, rfl, ?_⟩
      refine iteF ?_
      exact ⟨_, _, rfl, (B5'.same s6).less (by omega), UG.trans (But.of s6)⟩
    · rintro σ H' ⟨x5, x6, rfl, _, u⟩
      exact ⟨_, _, _, _, _, _, rfl, sH.trans (freshB s2 nb (U3.trans (U4.trans (U5.trans (V10.trans u)))))⟩
  · rintro σ H1 ⟨y1, y2, y3, y4, y5, y6, rfl, sH⟩
    exact q H1
end
end SH

set_option Elab.async false
set_option linter.all false
set_option maxRecDepth 100000
namespace SH
open PySem L2
section
variable {K : PySem.W.Frag} {oc : Value} {od an : Option Addr} {osl : Array (Option Value)} {doc pm cdv ct : Value} {f D : Addr} {u1 u2 : Tok}
/-- frame_of_work(w, h), frame_of_work(w, h, depth=d, number=n) -/
theorem frameOf_kw (d1 : PySem.W.nsIn K D "depth" = some (some (.int 1 u1))) (d2 : PySem.W.nsIn K D "number" = some (some (.int 0 u2))) :
    (∃ g, KBn K (PySem.W.fnOf "frame_of_work" "frame_of_work" (defArgs sFrameOf) (defBody sFrameOf) (defScope sFrameOf) .none (.ref D) doc pm an cdv ct) ["work", "handed", "depth", "number"] 2 [] g (fun vs _ => vs ++ [V.int 1, .int 0])) ∧
    ∃ g, KBn K (PySem.W.fnOf "frame_of_work" "frame_of_work" (defArgs sFrameOf) (defBody sFrameOf) (defScope sFrameOf) .none (.ref D) doc pm an cdv ct) ["work", "handed", "depth", "number"] 2 ["depth", "number"] g (fun vs zs => vs ++ zs) := by
  refine ⟨⟨fun us _ => us ++ [.int 1 u1, .int 0 u2], ⟨fun s us ws X h1 h2 => BindsTo.of_looks fun M => ?_, fun r _ => r.append (.cons ⟨u1, rfl⟩ (.cons ⟨u2, rfl⟩ .nil))⟩⟩, ⟨fun us ws => us ++ ws, ⟨fun s us ws X h1 h2 => ?_, fun r1 r2 => r1.append r2⟩⟩⟩
  · match us, ws, h1, h2 with
    | [x, y], [], _, _ =>
      refine KwChain.looks (D := D) (l := [("depth", .int 1 u1), ("number", .int 0 u2)]) X (fun q hq => ?_) ?_
      · rcases List.mem_cons.mp hq with e | e
        · rw [e]; exact d1
        · rw [List.mem_singleton.mp e]; exact d2
      · exact ⟨_, _, _, _, _, _, rfl, rfl, ⟨_, _, _, _, _, _, rfl, rfl, rfl⟩⟩
  · match us, ws, h1, h2 with
    | [x, y], [a, b], _, _ => exact BindsTo.of_eq rfl
/-- begun_frame(f, r, b), begun_frame(f, r, b, number=n) -/
theorem begun_kw (d2 : PySem.W.nsIn K D "number" = some (some (.int 0 u2))) :
    (∃ g, KBn K (PySem.W.fnOf "begun_frame" "begun_frame" (defArgs sBegun) (defBody sBegun) (defScope sBegun) .none (.ref D) doc pm an cdv ct) ["frame", "row", "book", "number"] 3 [] g (fun vs _ => vs ++ [V.int 0])) ∧
    ∃ g, KBn K (PySem.W.fnOf "begun_frame" "begun_frame" (defArgs sBegun) (defBody sBegun) (defScope sBegun) .none (.ref D) doc pm an cdv ct) ["frame", "row", "book", "number"] 3 ["number"] g (fun vs zs => vs ++ zs) := by
  refine ⟨⟨fun us _ => us ++ [.int 0 u2], ⟨fun s us ws X h1 h2 => BindsTo.of_looks fun M => ?_, fun r _ => r.append (.cons ⟨u2, rfl⟩ .nil)⟩⟩, ⟨fun us ws => us ++ ws, ⟨fun s us ws X h1 h2 => ?_, fun r1 r2 => r1.append r2⟩⟩⟩
  · match us, ws, h1, h2 with
    | [x, y, z], [], _, _ =>
      refine KwChain.looks (D := D) (l := [("number", .int 0 u2)]) X (fun q hq => ?_) ?_
      · rw [List.mem_singleton.mp hq]; exact d2
      · exact ⟨_, _, _, _, _, _, rfl, rfl, rfl⟩
  · match us, ws, h1, h2 with
    | [x, y, z], [b], _, _ => exact BindsTo.of_eq rfl
/-- Frame(c, r, w, depth=d, number=n) -/
theorem frameInit_kw (d2 : PySem.W.nsIn K D "place" = some (some (.int 0 u2))) :
    ∃ g, KBn K (PySem.W.fnOf "__init__" "Frame.__init__" (defArgs sFrameInit) (defBody sFrameInit) (defScope sFrameInit) .none (.ref D) doc pm an cdv ct) ["self", "code", "room", "worths", "depth", "number", "place"] 4 ["depth", "number"] g (fun vs zs => vs ++ zs ++ [V.int 0]) := by
  refine ⟨fun us ws => us ++ ws ++ [.int 0 u2], ⟨fun s us ws X h1 h2 => BindsTo.of_looks fun M => ?_, fun r1 r2 => (r1.append r2).append (.cons ⟨u2, rfl⟩ .nil)⟩⟩
  match us, ws, h1, h2 with
  | [x, y, z, v], [a, b], _, _ =>
    refine KwChain.looks (D := D) (l := [("place", .int 0 u2)]) X (fun q hq => ?_) ?_
    · rw [List.mem_singleton.mp hq]; exact d2
    · exact ⟨_, _, _, _, _, _, rfl, rfl, rfl⟩
/-- serial(b, n, a), serial(b, n, a, budget=m) -/
theorem serial_kw (d2 : PySem.W.nsIn K D "budget" = some (some (.int 400 u2))) :
    (∃ g, KBn K (PySem.W.fnOf "serial" "serial" (defArgs sSerial) (defBody sSerial) (defScope sSerial) .none (.ref D) doc pm an cdv ct) ["book", "name", "args", "budget"] 3 [] g (fun vs _ => vs ++ [V.int 400])) ∧
    ∃ g, KBn K (PySem.W.fnOf "serial" "serial" (defArgs sSerial) (defBody sSerial) (defScope sSerial) .none (.ref D) doc pm an cdv ct) ["book", "name", "args", "budget"] 3 ["budget"] g (fun vs zs => vs ++ zs) := by
  refine ⟨⟨fun us _ => us ++ [.int 400 u2], ⟨fun s us ws X h1 h2 => BindsTo.of_looks fun M => ?_, fun r _ => r.append (.cons ⟨u2, rfl⟩ .nil)⟩⟩, ⟨fun us ws => us ++ ws, ⟨fun s us ws X h1 h2 => ?_, fun r1 r2 => r1.append r2⟩⟩⟩
  · match us, ws, h1, h2 with
    | [x, y, z], [], _, _ =>
      refine KwChain.looks (D := D) (l := [("budget", .int 400 u2)]) X (fun q hq => ?_) ?_
      · rw [List.mem_singleton.mp hq]; exact d2
      · exact ⟨_, _, _, _, _, _, rfl, rfl, rfl⟩
  · match us, ws, h1, h2 with
    | [x, y, z], [b], _, _ => exact BindsTo.of_eq rfl
end
end SH

set_option Elab.async false
set_option linter.all false
set_option maxRecDepth 100000
/-! A head by one run: each def's object, and any other facts by Bools of what the module's names reach. -/
namespace SH
open PySem PySem.Spec PyProof.Rows L2
namespace HK
abbrev Fr : Type := PySem.W.Frag
/-- the function object at a global, at a class's method -/
def fdOf (K : Fr) (p : Str × Option Str) : Option FuncData := match K.lookup (He.fAd K p) with
  | some ⟨_, _, .func fd, _⟩ => some fd
  | _ => none
theorem fdOf_ok {K : Fr} {p : Str × Option Str} {fd : FuncData} (h : fdOf K p = some fd) : ∃ oc od sl, K.lookup (He.fAd K p) = some ⟨oc, od, .func fd, sl⟩ := by
  unfold fdOf at h
  cases q : K.lookup (He.fAd K p) with
  | none =>
    rw [q] at h
    cases h
  | some o =>
    obtain ⟨oc, od, dt, sl⟩ := o
    rw [q] at h
    cases dt with
    | func f =>
      have e : f = fd := Option.some.inj h
      rw [e]
      exact ⟨oc, od, sl, rfl⟩
    | _ => cases h
def ra : Value → Addr
  | .ref a => a
  | _ => 0
def isR : Value → Bool
  | .ref _ => true
  | _ => false
theorem isR_ok {v : Value} (h : isR v = true) : v = .ref (ra v) := by
  cases v with
  | ref a => rfl
  | _ => cases h
def isN : Value → Bool
  | .none => true
  | _ => false
theorem isN_ok {v : Value} (h : isN v = true) : v = .none := by
  cases v with
  | none => rfl
  | _ => cases h
def cl1 : List (Str × Addr) → Bool
  | [q] => decide (q.1 = "__class__")
  | _ => false
def ca : List (Str × Addr) → Addr
  | q :: _ => q.2
  | [] => 0
theorem cl1_ok {l : List (Str × Addr)} (h : cl1 l = true) : l = ([("__class__", ca l)] : List (Str × Addr)) := by
  cases l with
  | nil => cases h
  | cons q r =>
    obtain ⟨x, a⟩ := q
    cases r with
    | nil =>
      have e : x = "__class__" := of_decide_eq_true h
      rw [e]
      rfl
    | cons _ _ => cases h
/-- a def of the top: its class, its name, its whole name, its text, what its object holds besides -/
inductive Kd where
  | plain | kw | dfl | sup
structure FD where
  at_ : Str × Option Str
  name : Str
  qual : Str
  st : Stmt
  kd : Kd
abbrev Fv : Type := Option (Str × Str × Arguments × FuncBody × Scope × Addr × Addr)
def fv (K : Fr) (p : Str × Option Str) : Fv := match fdOf K p with
  | some fd => some (fd.name, fd.qualname, fd.params, fd.body, fd.scope, fd.globals, fd.builtins)
  | none => none
def FD.val (d : FD) : Fv := some (d.name, d.qual, defArgs d.st, .stmts (defBody d.st), defScope d.st, mainGlobals, builtinsNs)
def Kd.ok (fd : FuncData) : Kd → Bool
  | .plain => fd.closure.isEmpty && isN fd.defaults
  | .kw => (fd.closure.isEmpty && isN fd.defaults) && isR fd.kwdefaults
  | .dfl => fd.closure.isEmpty && isR fd.defaults
  | .sup => (cl1 fd.closure && isN fd.defaults) && isR fd.code
def FD.ok (K : Fr) (d : FD) : Bool := match fdOf K d.at_ with
  | some fd => PySem.W.keepIn K (.ref (He.fAd K d.at_)) && (PySem.W.codeIn K fd.code d.qual && d.kd.ok fd)
  | none => false
/-- the addresses that it holds -/
def kwA (K : Fr) (p : Str × Option Str) : Addr := match fdOf K p with
  | some fd => ra fd.kwdefaults
  | none => 0
def dfA (K : Fr) (p : Str × Option Str) : Addr := match fdOf K p with
  | some fd => ra fd.defaults
  | none => 0
def cdA (K : Fr) (p : Str × Option Str) : Addr := match fdOf K p with
  | some fd => ra fd.code
  | none => 0
def ccA (K : Fr) (p : Str × Option Str) : Addr := match fdOf K p with
  | some fd => ca fd.closure
  | none => 0
theorem FD.got {K : Fr} {d : FD} (e : fv K d.at_ = d.val) (c : d.ok K = true) : ∃ (fd : FuncData) (cl : List (Str × Addr)) (dV kV doc pm : Value) (an : Option Addr) (cdv ct : Value), fdOf K d.at_ = some fd ∧
    fd = { name := d.name, qualname := d.qual, params := defArgs d.st, body := .stmts (defBody d.st), scope := defScope d.st, globals := mainGlobals, closure := cl, defaults := dV, kwdefaults := kV, doc := doc, pyModule := pm, annotations := an, code := cdv, closureTuple := ct, builtins := builtinsNs } ∧
    PySem.W.keepIn K (.ref (He.fAd K d.at_)) = true ∧ PySem.W.codeIn K cdv d.qual = true ∧ d.kd.ok fd = true := by
  unfold fv at e
  unfold FD.ok at c
  cases q : fdOf K d.at_ with
  | none =>
    rw [q] at c
    cases c
  | some fd =>
    rw [q] at c e
    obtain ⟨c0, c⟩ := He.ba c
    obtain ⟨c1, c2⟩ := He.ba c
    obtain ⟨n1, n2, n3, n4, n5, n6, n7, n8, n9, n10, n11, n12, n13, n14, n15⟩ := fd
    have e2 : (some (n1, n2, n3, n4, n5, n6, n15) : Fv) = some (d.name, d.qual, defArgs d.st, .stmts (defBody d.st), defScope d.st, mainGlobals, builtinsNs) := e
    simp only [Option.some.injEq, Prod.mk.injEq] at e2
    obtain ⟨h1, h2, h3, h4, h5, h6, h8⟩ := e2
    subst h1 h2 h3 h4 h5 h6 h8
    exact ⟨_, n7, n8, n9, n10, n11, n12, n13, n14, rfl, rfl, c0, c1, c2⟩
section
variable {K : Fr}
theorem fn_plain {p : Str × Option Str} {x y : Str} {st : Stmt} (e : fv K p = FD.val ⟨p, x, y, st, .plain⟩) (c : FD.ok K ⟨p, x, y, st, .plain⟩ = true) :
    ∃ oc od sl kV doc pm an cd ct, K.lookup (He.fAd K p) = some ⟨oc, od, .func (PySem.W.fnOf x y (defArgs st) (defBody st) (defScope st) .none kV doc pm an cd ct), sl⟩ ∧ PySem.W.codeIn K cd y = true ∧ PySem.W.keepIn K (.ref (He.fAd K p)) = true := by
  obtain ⟨fd, cl, dV, kV, doc, pm, an, cdv, ct, h1, h2, h0, h3, h4⟩ := FD.got (d := ⟨p, x, y, st, .plain⟩) e c
  obtain ⟨oc, od, sl, h5⟩ := fdOf_ok h1
  subst h2
  obtain ⟨h6, h7⟩ := He.ba h4
  have e1 : cl = [] := List.isEmpty_iff.mp h6
  have e2 : dV = .none := isN_ok h7
  subst e1 e2
  exact ⟨oc, od, sl, kV, doc, pm, an, cdv, ct, h5, h3, h0⟩
theorem fn_kw {p : Str × Option Str} {x y : Str} {st : Stmt} (e : fv K p = FD.val ⟨p, x, y, st, .kw⟩) (c : FD.ok K ⟨p, x, y, st, .kw⟩ = true) :
    ∃ oc od sl doc pm an cd ct, K.lookup (He.fAd K p) = some ⟨oc, od, .func (PySem.W.fnOf x y (defArgs st) (defBody st) (defScope st) .none (.ref (kwA K p)) doc pm an cd ct), sl⟩ ∧ PySem.W.codeIn K cd y = true ∧ PySem.W.keepIn K (.ref (He.fAd K p)) = true := by
  obtain ⟨fd, cl, dV, kV, doc, pm, an, cdv, ct, h1, h2, h0, h3, h4⟩ := FD.got (d := ⟨p, x, y, st, .kw⟩) e c
  obtain ⟨oc, od, sl, h5⟩ := fdOf_ok h1
  subst h2
  obtain ⟨h4, h8⟩ := He.ba h4
  obtain ⟨h6, h7⟩ := He.ba h4
  have e1 : cl = [] := List.isEmpty_iff.mp h6
  have e2 : dV = .none := isN_ok h7
  have e3 : kV = .ref (ra kV) := isR_ok h8
  have e4 : kwA K p = ra kV := by
    unfold kwA
    rw [h1]
  rw [e4, ← e3]
  subst e1 e2
  exact ⟨oc, od, sl, doc, pm, an, cdv, ct, h5, h3, h0⟩
theorem fn_dfl {p : Str × Option Str} {x y : Str} {st : Stmt} (e : fv K p = FD.val ⟨p, x, y, st, .dfl⟩) (c : FD.ok K ⟨p, x, y, st, .dfl⟩ = true) :
    ∃ oc od sl kV doc pm an cd ct, K.lookup (He.fAd K p) = some ⟨oc, od, .func (PySem.W.fnOf x y (defArgs st) (defBody st) (defScope st) (.ref (dfA K p)) kV doc pm an cd ct), sl⟩ ∧ PySem.W.codeIn K cd y = true ∧ PySem.W.keepIn K (.ref (He.fAd K p)) = true := by
  obtain ⟨fd, cl, dV, kV, doc, pm, an, cdv, ct, h1, h2, h0, h3, h4⟩ := FD.got (d := ⟨p, x, y, st, .dfl⟩) e c
  obtain ⟨oc, od, sl, h5⟩ := fdOf_ok h1
  subst h2
  obtain ⟨h6, h7⟩ := He.ba h4
  have e1 : cl = [] := List.isEmpty_iff.mp h6
  have e3 : dV = .ref (ra dV) := isR_ok h7
  have e4 : dfA K p = ra dV := by
    unfold dfA
    rw [h1]
  rw [e4, ← e3]
  subst e1
  exact ⟨oc, od, sl, kV, doc, pm, an, cdv, ct, h5, h3, h0⟩
theorem fn_sup {p : Str × Option Str} {x y : Str} {st : Stmt} (e : fv K p = FD.val ⟨p, x, y, st, .sup⟩) (c : FD.ok K ⟨p, x, y, st, .sup⟩ = true) :
    ∃ oc od sl kV doc pm an ct, K.lookup (He.fAd K p) = some ⟨oc, od, .func (PySem.W.ksFn x y (defArgs st) (defBody st) (defScope st) .none kV doc pm an (.ref (cdA K p)) ct (ccA K p)), sl⟩ ∧ PySem.W.codeIn K (.ref (cdA K p)) y = true ∧ PySem.W.keepIn K (.ref (He.fAd K p)) = true := by
  obtain ⟨fd, cl, dV, kV, doc, pm, an, cdv, ct, h1, h2, h0, h3, h4⟩ := FD.got (d := ⟨p, x, y, st, .sup⟩) e c
  obtain ⟨oc, od, sl, h5⟩ := fdOf_ok h1
  subst h2
  obtain ⟨h4, h8⟩ := He.ba h4
  obtain ⟨h6, h7⟩ := He.ba h4
  have e1 : cl = ([("__class__", ca cl)] : List (Str × Addr)) := cl1_ok h6
  have e2 : dV = .none := isN_ok h7
  have e3 : cdv = .ref (ra cdv) := isR_ok h8
  have e4 : cdA K p = ra cdv := by
    unfold cdA
    rw [h1]
  have e5 : ccA K p = ca cl := by
    unfold ccA
    rw [h1]
  rw [e4, ← e3, e5]
  subst e2
  refine ⟨oc, od, sl, kV, doc, pm, an, ct, ?_, h3, h0⟩
  rw [h5]
  show some (⟨oc, od, .func { name := x, qualname := y, params := defArgs st, body := .stmts (defBody st), scope := defScope st, globals := mainGlobals, closure := cl, defaults := .none, kwdefaults := kV, doc := doc, pyModule := pm, annotations := an, code := cdv, closureTuple := ct, builtins := builtinsNs }, sl⟩ : Obj) = some ⟨oc, od, .func { name := x, qualname := y, params := defArgs st, body := .stmts (defBody st), scope := defScope st, globals := mainGlobals, closure := [("__class__", ca cl)], defaults := .none, kwdefaults := kV, doc := doc, pyModule := pm, annotations := an, code := cdv, closureTuple := ct, builtins := builtinsNs }, sl⟩
  rw [← e1]
/-! ### values that hold a token or a place of no matter -/
def intAt (K : Fr) (D : Addr) (x : Str) (i : Int) : Bool := match PySem.W.nsIn K D x with
  | some (some (.int j _)) => decide (j = i)
  | _ => false
theorem intAt_ok {D : Addr} {x : Str} {i : Int} (c : intAt K D x i = true) : ∃ t, PySem.W.nsIn K D x = some (some (.int i t)) := by
  unfold intAt at c
  split at c
  · rename_i j t e
    have ej : j = i := of_decide_eq_true c
    rw [e, ej]
    exact ⟨t, rfl⟩
  · cases c
def strAt (K : Fr) (D : Addr) (x z : Str) : Bool := match PySem.W.nsIn K D x with
  | some (some (.str y _)) => decide (y = z)
  | _ => false
theorem strAt_ok {D : Addr} {x z : Str} (c : strAt K D x z = true) : ∃ t, PySem.W.nsIn K D x = some (some (.str z t)) := by
  unfold strAt at c
  split at c
  · rename_i j t e
    have ej : j = z := of_decide_eq_true c
    rw [e, ej]
    exact ⟨t, rfl⟩
  · cases c
/-- a tuple of these -/
def tupAt (K : Fr) (a : Addr) (vs : List V) : Bool := match K.lookup a with
  | some ⟨.type c, _, .seq its _, _⟩ => decide (c = "tuple") && He.relAll vs its.toList
  | _ => false
theorem tupAt_ok {a : Addr} {vs : List V} (h : tupAt K a vs = true) : ∃ d i n s, K.lookup a = some ⟨.type "tuple", d, .seq (List.toArray i) n, s⟩ ∧ Vals vs i := by
  unfold tupAt at h
  split at h
  · rename_i c d its n s e
    obtain ⟨h1, h2⟩ := He.ba h
    have ec : c = "tuple" := of_decide_eq_true h1
    subst ec
    exact ⟨d, its.toList, n, s, by rw [e, Array.toArray_toList], He.relAll_ok h2⟩
  · cases h
def seqAt (K : Fr) (a : Addr) (vs : List V) : Bool := match K.lookup a with
  | some ⟨_, _, .seq its _, _⟩ => He.relAll vs its.toList
  | _ => false
theorem seqAt_ok {a : Addr} {vs : List V} (h : seqAt K a vs = true) : ∃ (o : Obj) (i : List Value) (n : Nat), K.lookup a = some o ∧ o.data = .seq i.toArray n ∧ Vals vs i := by
  unfold seqAt at h
  split at h
  · rename_i c d its n s e
    exact ⟨_, its.toList, n, e, by rw [Array.toArray_toList], He.relAll_ok h⟩
  · cases h
/-- an error's class -/
def mroTail : List Value → List Value
  | _ :: r => r
  | [] => []
def excAt (K : Fr) (C : Addr) (bm : List Value) (B : String) : Bool := match K.lookup C with
  | some ⟨c, _, .cls cd, sl⟩ => decide (c = .type "type") && (decide (cd.mro = .ref C :: bm) && (cd.hasDict && (!cd.hasDel && (match sl.toList with
    | [_, _, _, _, v, _] => decide (v = some (.builtin B))
    | _ => false))))
  | _ => false
theorem excAt_ok {C : Addr} {bm : List Value} {B : String} (h : excAt K C bm B = true) : ∃ nm q N bs bm' sn sub ab col dd k0 k1 k2 k3 k5, K.lookup C = some (excClassObj nm q C N bs bm' true sn sub ab col dd k0 k1 k2 k3 k5 B) ∧ bm' = bm := by
  unfold excAt at h
  split at h
  · rename_i c dd cd sl e
    obtain ⟨h1, h⟩ := He.ba h
    obtain ⟨h2, h⟩ := He.ba h
    obtain ⟨h3, h⟩ := He.ba h
    obtain ⟨h4, h5⟩ := He.ba h
    have e1 : c = .type "type" := of_decide_eq_true h1
    have e2 : cd.mro = .ref C :: bm := of_decide_eq_true h2
    have e4 : cd.hasDel = false := by
      cases z : cd.hasDel with
      | false => rfl
      | true =>
        rw [z] at h4
        cases h4
    split at h5
    · rename_i k0 k1 k2 k3 v k5 e5
      have e6 : v = some (.builtin B) := of_decide_eq_true h5
      have e7 : sl = #[k0, k1, k2, k3, some (.builtin B), k5] := by
        rw [← e6]
        apply Array.toList_inj.mp
        exact e5
      obtain ⟨a1, a2, a3, a4, a5, a6, a7, a8, a9, a10, a11⟩ := cd
      refine ⟨a1, a5, a4, a2, bm, a7, a8, a9, a10, dd, k0, k1, k2, k3, k5, ?_, rfl⟩
      rw [e, e1, e7]
      have e2' : a3 = .ref C :: bm := e2
      have e3' : a6 = true := h3
      have e4' : a11 = false := e4
      rw [e2', e3', e4']
    · cases h5
  · cases h
/-- the file that a code object names -/
def fileAt (K : Fr) (c : Addr) (F : Str) : Bool := match K.lookup c with
  | some ⟨_, _, .fields vs, _⟩ => (match (vs[2]? : Option Value) with
    | some (.str x _) => F == x
    | _ => false)
  | _ => false
theorem fileAt_ok {c : Addr} {F : Str} (h : fileAt K c F = true) : ∃ cl cd vs cs file tf, K.lookup c = some ⟨cl, cd, .fields vs, cs⟩ ∧ vs[2]? = some (.str file tf) ∧ (F == file) = true := by
  unfold fileAt at h
  split at h
  · rename_i cl cd vs cs e
    split at h
    · rename_i x t e2
      exact ⟨cl, cd, vs, cs, x, t, e, e2, h⟩
    · cases h
  · cases h
def cellAt (K : Fr) (c C : Addr) : Bool := match K.lookup c with
  | some ⟨_, _, .cell (some v), _⟩ => decide (v = .ref C)
  | _ => false
theorem cellAt_ok {c C : Addr} (h : cellAt K c C = true) : ∃ cl cld csl, K.lookup c = some ⟨cl, cld, .cell (some (.ref C)), csl⟩ := by
  unfold cellAt at h
  split at h
  · rename_i cl cld v csl e
    have ev : v = .ref C := of_decide_eq_true h
    rw [e, ev]
    exact ⟨cl, cld, csl, rfl⟩
  · cases h
end
/-! ### the Hook -/
abbrev Al : Type := Bool × List Fv
def obs (fa : List (Fr → Bool)) (fn : List FD) (K : Fr) : Al := ((fa.all fun f => f K) && fn.all fun d => d.ok K, fn.map fun d => fv K d.at_)
def val (fn : List FD) : Al := (true, fn.map FD.val)
def Says (fa : List (Fr → Bool)) (fn : List FD) (K : Fr) : Prop := obs fa fn K = val fn
/-- what an object of the top holds: a def its code, defaults and cells, a class and a dict their names' -/
def own (o : Obj) : List Addr := match o.data with
  | .func fd => He.refV fd.code ++ (He.refV fd.defaults ++ (He.refV fd.kwdefaults ++ fd.closure.map (·.2)))
  | .cls cd => [cd.ns]
  | .dict es _ => es.toList.flatMap fun e => He.refV e.val
  | _ => []
def next (g : Addr → Option Obj) (as : List Addr) : List Addr := as.flatMap fun a => match g a with
  | some o => own o
  | none => []
/-- n steps from the module's names (4 reach a method's code) -/
def lvls (g : Addr → Option Obj) : Nat → List Addr → List Addr
  | 0, as => as
  | n + 1, as => as ++ lvls g n (next g as)
def obsG (n : Nat) (fa : List (Fr → Bool)) (fn : List FD) (g : Addr → Option Obj) : Al := obs fa fn (He.frG g (cStatics :: lvls g n [mainGlobals]))
def hook (n : Nat) (fa : List (Fr → Bool)) (fn : List FD) : PySem.W.Hook where
  α := Al
  obs := fun s => obsG n fa fn s.heap.get?
  val := fun _ => val fn
  says := fun _ h => ∃ K : PySem.W.Frag, K.In h ∧ Says fa fn K
  of := fun _ _ e => ⟨_, He.frG_in, e⟩
  keeps := fun _ _ _ ⟨K, hK, c⟩ k => ⟨K, PySem.W.Frag.In.keeps hK k, c⟩
theorem obsG_eq {n : Nat} {fa : List (Fr → Bool)} {fn : List FD} {g : Addr → Option Obj} {s : Shared} (h : ∀ a, g a = s.heap.get? a) : obsG n fa fn g = (hook n fa fn).obs s := by
  have e : g = s.heap.get? := funext h
  rw [e] <;> rfl
section
variable {fa : List (Fr → Bool)} {fn : List FD} {K : Fr}
theorem Says.fact (c : Says fa fn K) (i : Nat) {f : Fr → Bool} (h : fa[i]? = some f := by rfl) : f K = true := by
  have c1 := (He.ba (show ((fa.all fun f => f K) && fn.all fun d => d.ok K) = true from congrArg (fun z : Al => z.1) c)).1
  exact List.all_eq_true.mp c1 f (List.mem_of_getElem? h)
theorem Says.one (c : Says fa fn K) (i : Nat) {d : FD} (h : fn[i]? = some d) : fv K d.at_ = d.val ∧ d.ok K = true := by
  have c2 := (He.ba (show ((fa.all fun f => f K) && fn.all fun d => d.ok K) = true from congrArg (fun z : Al => z.1) c)).2
  have e : fn.map (fun d => fv K d.at_) = fn.map FD.val := congrArg (fun z : Al => z.2) c
  have e2 : (fn.map fun d => fv K d.at_)[i]? = (fn.map FD.val)[i]? := by rw [e]
  rw [List.getElem?_map, List.getElem?_map, h] at e2
  exact ⟨Option.some.inj e2, List.all_eq_true.mp c2 d (List.mem_of_getElem? h)⟩
theorem Says.plain (c : Says fa fn K) (i : Nat) {p : Str × Option Str} {x y : Str} {st : Stmt} (h : fn[i]? = some ⟨p, x, y, st, .plain⟩) :
    ∃ oc od sl kV doc pm an cd ct, K.lookup (He.fAd K p) = some ⟨oc, od, .func (PySem.W.fnOf x y (defArgs st) (defBody st) (defScope st) .none kV doc pm an cd ct), sl⟩ ∧ PySem.W.codeIn K cd y = true ∧ PySem.W.keepIn K (.ref (He.fAd K p)) = true :=
  fn_plain (c.one i h).1 (c.one i h).2
theorem Says.kw (c : Says fa fn K) (i : Nat) {p : Str × Option Str} {x y : Str} {st : Stmt} (h : fn[i]? = some ⟨p, x, y, st, .kw⟩) :
    ∃ oc od sl doc pm an cd ct, K.lookup (He.fAd K p) = some ⟨oc, od, .func (PySem.W.fnOf x y (defArgs st) (defBody st) (defScope st) .none (.ref (kwA K p)) doc pm an cd ct), sl⟩ ∧ PySem.W.codeIn K cd y = true ∧ PySem.W.keepIn K (.ref (He.fAd K p)) = true :=
  fn_kw (c.one i h).1 (c.one i h).2
theorem Says.dfl (c : Says fa fn K) (i : Nat) {p : Str × Option Str} {x y : Str} {st : Stmt} (h : fn[i]? = some ⟨p, x, y, st, .dfl⟩) :
    ∃ oc od sl kV doc pm an cd ct, K.lookup (He.fAd K p) = some ⟨oc, od, .func (PySem.W.fnOf x y (defArgs st) (defBody st) (defScope st) (.ref (dfA K p)) kV doc pm an cd ct), sl⟩ ∧ PySem.W.codeIn K cd y = true ∧ PySem.W.keepIn K (.ref (He.fAd K p)) = true :=
  fn_dfl (c.one i h).1 (c.one i h).2
theorem Says.sup (c : Says fa fn K) (i : Nat) {p : Str × Option Str} {x y : Str} {st : Stmt} (h : fn[i]? = some ⟨p, x, y, st, .sup⟩) :
    ∃ oc od sl kV doc pm an ct, K.lookup (He.fAd K p) = some ⟨oc, od, .func (PySem.W.ksFn x y (defArgs st) (defBody st) (defScope st) .none kV doc pm an (.ref (cdA K p)) ct (ccA K p)), sl⟩ ∧ PySem.W.codeIn K (.ref (cdA K p)) y = true ∧ PySem.W.keepIn K (.ref (He.fAd K p)) = true :=
  fn_sup (c.one i h).1 (c.one i h).2
end
end HK
/-- a law: F gives the part of the heap, the function object, the promise over every base -/
theorem walk_GE {l : PySem.W.OpenLaw} {k : Nat} {q : Program} {loose : List PySem.Str} {XP : (PySem.Str → Option Value) → Heap → Prop} {YP : World → Heap → Prop} {d : DefRec} {sp : PySem.W.Frag → Sp} (most : l.most = some 63) (nodf : d.params.defaults = []) (room : Room k callerA)
    (F : ∀ (w : World) (mg : PySem.Str → Option Value) (fa : Addr) (h : Heap), YP w h → h.Ns mainGlobals mg → mg d.name = some (.ref fa) → ∃ K : PySem.W.Frag, K.In h ∧
      ∃ fd : FuncData, (∀ (s : Shared) (u : Value), BindsTo s fd ⟨[u], []⟩ [("_law_script", u)]) ∧ ∀ base : Heap, K.In base → base.Ns mainGlobals mg → FnG l.prog w K mg base k fa fd ["_law_script"] (sp K))
    (hsp : ∀ (K : PySem.W.Frag) (H : Hp) (a : Addr) (ns : List Int), ns.length ≤ 63 → SqL K H a (ns.map V.int) → sp K [.ref a] H (fun v _ => v = .bl true) E0) :
    PySem.W.WalkO q loose XP YP l.row.toRowW d [] (fun f vs => PySem.call f vs) := by
  refine Att.attach_call most nodf fun w s₀ s₁ mg mb fa o pm cd doc a vs ns G Y ho hd hcd hmg hobj hints hlen hg => ?_
  obtain ⟨K, KX, fd, hb, hF⟩ := F w mg fa _ Y G.T.g hmg
  obtain ⟨H, base, sq, env, kb, nb, out⟩ := law_begin (P := l.prog) (w := w) KX G.T.g G.T.b G.T.builtins G.T.nolimit hg hobj hints (Nat.le_trans hlen (by decide))
  exact codeAny_mono ((hF base kb nb).run callerA [] s₁ H ⟨[.ref a], []⟩ [.ref a] [.ref a] _ _ rfl room env (hb s₁ (.ref a)) (.cons rfl .nil) (hsp _ H a ns hlen sq)) out
end SH

set_option Elab.async false
set_option linter.all false
set_option maxRecDepth 100000
namespace SH
open PySem L2
set_option maxHeartbeats 8000000
theorem exm_self {K : PySem.W.Frag} {C : Addr} (h1 : PySem.W.subIn K (.ref C) (.type "BaseException") = some true) (isC : PySem.W.isClsIn K C = true) (ht : PySem.W.typeIn K (.ref C) = some (.type "type")) (h4 : PySem.W.subIn K (.ref C) (.ref C) = some true) : PySem.W.exmOne K (.ref C) (.ref C) = some true := by
  have e1 : (PySem.W.subIn K (.ref C) (.type "BaseException") == some true) = true := by rw [h1] <;> rfl
  have e3 : (PySem.W.clsIn K C).isSome = true := isC
  have e2 : ((PySem.W.clsIn K C).isSome && PySem.W.typeIn K (.ref C) == some (.type "type")) = true := by rw [e3, ht] <;> rfl
  show (if (PySem.W.subIn K (.ref C) (.type "BaseException") == some true) = true then (if ((PySem.W.clsIn K C).isSome && PySem.W.typeIn K (.ref C) == some (.type "type")) = true then PySem.W.subIn K (.ref C) (.ref C) else none) else none) = some true
  rw [if_pos e1, if_pos e2]
  exact h4
theorem isEx_dflt {K : PySem.W.Frag} {f : Addr} {fd : FuncData} (F : FunD K "is_expression" "is_expression" (defArgs sIsEx) (defBody sIsEx) (defScope sIsEx) [.int 6] [] f fd) : (∃ ds, Vals [V.int 6] ds ∧ Binds K fd ["thing", "deepest"] ds) ∧ Binds K fd ["thing", "deepest"] [] := by
  have one := F.binds1 (ps := ["thing", "deepest"]) 1 0 (by simp) rfl fun T kV doc pm an cdv ct us its h1 h2 => match us, its, h1, h2 with | [_], [_], _, _ => ⟨_, rfl, rfl⟩
  obtain ⟨ds, v, b⟩ := F.binds1 (ps := ["thing", "deepest"]) 2 1 (by simp) rfl fun T kV doc pm an cdv ct us its h1 h2 => match us, its, h1, h2 with | [_, _], [_], _, _ => ⟨_, rfl, rfl⟩
  have e : ds = [] := by
    cases v
    rfl
  exact ⟨one, e ▸ b⟩
theorem all_mk {l : PySem.W.OpenLaw} {w : World} {K : PySem.W.Frag} {h : Heap} {mg : Str → Option Value} {fa f_check_work f_is_work f_is_tuple_of f_is_whole f_is_whole_within f_is_name f_are_names f_is_expression f_is_leaf f_are_expressions f_rows_left f_row_left f_branches_left f_is_if_head f_is_plain_row f_check_works f_check_starts f_handed_counts f_check_start f_starts_in f_Book___init__ f_Book_tree f_code_of f_rows_code f_if_code f_is_future f_worth_of f_path_of f_reckon f_reckon_number f_as_number f_operate f_combine f_Frame___init__ f_Task___init__ f_frame_of_work f_room_of f_next_row f_waited_path f_do_step f_try_row f_do_row f_start_task f_call_work f_begun_frame f_handed_on f_give f_wait_worth f_name_and_move f_move f_serial f_Run___init__ f_Run_ends f_first_task f_are_numbers f_walk f_most_taken f_Lbag f_Ltake f_Lkept f_Lnames f_Lnumber f_Ltree f_Largs f_Lvalue f_Ltold f_Lis_right f_Ledge f_law : Addr} (X : K.In h) (G : h.Ns mainGlobals mg) (hfa : mg "law" = some (.ref fa))
    {od_check_work od_is_work od_is_tuple_of od_is_whole od_is_whole_within od_is_name od_are_names od_is_expression od_is_leaf od_are_expressions od_rows_left od_row_left od_branches_left od_is_if_head od_is_plain_row od_check_works od_check_starts od_handed_counts od_check_start od_starts_in od_Book___init__ od_Book_tree od_code_of od_rows_code od_if_code od_is_future od_worth_of od_path_of od_reckon od_reckon_number od_as_number od_operate od_combine od_Frame___init__ od_Task___init__ od_frame_of_work od_room_of od_next_row od_waited_path od_do_step od_try_row od_do_row od_start_task od_call_work od_begun_frame od_handed_on od_give od_wait_worth od_name_and_move od_move od_serial od_Run___init__ od_Run_ends od_first_task od_are_numbers od_walk od_most_taken od_Lbag od_Ltake od_Lkept od_Lnames od_Lnumber od_Ltree od_Largs od_Lvalue od_Ltold od_Lis_right od_Ledge od_law an_check_work an_is_work an_is_tuple_of an_is_whole an_is_whole_within an_is_name an_are_names an_is_expression an_is_leaf an_are_expressions an_rows_left an_row_left an_branches_left an_is_if_head an_is_plain_row an_check_works an_check_starts an_handed_counts an_check_start an_starts_in an_Book___init__ an_Book_tree an_code_of an_rows_code an_if_code an_is_future an_worth_of an_path_of an_reckon an_reckon_number an_as_number an_operate an_combine an_Frame___init__ an_Task___init__ an_frame_of_work an_room_of an_next_row an_waited_path an_do_step an_try_row an_do_row an_start_task an_call_work an_begun_frame an_handed_on an_give an_wait_worth an_name_and_move an_move an_serial an_Run___init__ an_Run_ends an_first_task an_are_numbers an_walk an_most_taken an_Lbag an_Ltake an_Lkept an_Lnames an_Lnumber an_Ltree an_Largs an_Lvalue an_Ltold an_Lis_right an_Ledge an_law : Option Addr} {sl_check_work sl_is_work sl_is_tuple_of sl_is_whole sl_is_whole_within sl_is_name sl_are_names sl_is_expression sl_is_leaf sl_are_expressions sl_rows_left sl_row_left sl_branches_left sl_is_if_head sl_is_plain_row sl_check_works sl_check_starts sl_handed_counts sl_check_start sl_starts_in sl_Book___init__ sl_Book_tree sl_code_of sl_rows_code sl_if_code sl_is_future sl_worth_of sl_path_of sl_reckon sl_reckon_number sl_as_number sl_operate sl_combine sl_Frame___init__ sl_Task___init__ sl_frame_of_work sl_room_of sl_next_row sl_waited_path sl_do_step sl_try_row sl_do_row sl_start_task sl_call_work sl_begun_frame sl_handed_on sl_give sl_wait_worth sl_name_and_move sl_move sl_serial sl_Run___init__ sl_Run_ends sl_first_task sl_are_numbers sl_walk sl_most_taken sl_Lbag sl_Ltake sl_Lkept sl_Lnames sl_Lnumber sl_Ltree sl_Largs sl_Lvalue sl_Ltold sl_Lis_right sl_Ledge sl_law : Array (Option Value)} {oc_check_work oc_is_work oc_is_tuple_of oc_is_whole oc_is_whole_within oc_is_name oc_are_names oc_is_expression oc_is_leaf oc_are_expressions oc_rows_left oc_row_left oc_branches_left oc_is_if_head oc_is_plain_row oc_check_works oc_check_starts oc_handed_counts oc_check_start oc_starts_in oc_Book___init__ oc_Book_tree oc_code_of oc_rows_code oc_if_code oc_is_future oc_worth_of oc_path_of oc_reckon oc_reckon_number oc_as_number oc_operate oc_combine oc_Frame___init__ oc_Task___init__ oc_frame_of_work oc_room_of oc_next_row oc_waited_path oc_do_step oc_try_row oc_do_row oc_start_task oc_call_work oc_begun_frame oc_handed_on oc_give oc_wait_worth oc_name_and_move oc_move oc_serial oc_Run___init__ oc_Run_ends oc_first_task oc_are_numbers oc_walk oc_most_taken oc_Lbag oc_Ltake oc_Lkept oc_Lnames oc_Lnumber oc_Ltree oc_Largs oc_Lvalue oc_Ltold oc_Lis_right oc_Ledge oc_law kV_check_work kV_is_work kV_is_tuple_of kV_is_whole kV_is_whole_within kV_is_name kV_are_names kV_is_expression kV_is_leaf kV_are_expressions kV_rows_left kV_row_left kV_branches_left kV_is_if_head kV_is_plain_row kV_check_works kV_check_starts kV_handed_counts kV_check_start kV_starts_in kV_Book___init__ kV_Book_tree kV_code_of kV_rows_code kV_if_code kV_is_future kV_worth_of kV_path_of kV_reckon kV_reckon_number kV_as_number kV_operate kV_combine kV_Task___init__ kV_room_of kV_next_row kV_waited_path kV_do_step kV_try_row kV_do_row kV_start_task kV_call_work kV_handed_on kV_give kV_wait_worth kV_name_and_move kV_move kV_Run___init__ kV_Run_ends kV_first_task kV_are_numbers kV_walk kV_most_taken kV_Lbag kV_Ltake kV_Lkept kV_Lnames kV_Lnumber kV_Ltree kV_Largs kV_Lvalue kV_Ltold kV_Lis_right kV_Ledge kV_law dc_check_work dc_is_work dc_is_tuple_of dc_is_whole dc_is_whole_within dc_is_name dc_are_names dc_is_expression dc_is_leaf dc_are_expressions dc_rows_left dc_row_left dc_branches_left dc_is_if_head dc_is_plain_row dc_check_works dc_check_starts dc_handed_counts dc_check_start dc_starts_in dc_Book___init__ dc_Book_tree dc_code_of dc_rows_code dc_if_code dc_is_future dc_worth_of dc_path_of dc_reckon dc_reckon_number dc_as_number dc_operate dc_combine dc_Frame___init__ dc_Task___init__ dc_frame_of_work dc_room_of dc_next_row dc_waited_path dc_do_step dc_try_row dc_do_row dc_start_task dc_call_work dc_begun_frame dc_handed_on dc_give dc_wait_worth dc_name_and_move dc_move dc_serial dc_Run___init__ dc_Run_ends dc_first_task dc_are_numbers dc_walk dc_most_taken dc_Lbag dc_Ltake dc_Lkept dc_Lnames dc_Lnumber dc_Ltree dc_Largs dc_Lvalue dc_Ltold dc_Lis_right dc_Ledge dc_law pm_check_work pm_is_work pm_is_tuple_of pm_is_whole pm_is_whole_within pm_is_name pm_are_names pm_is_expression pm_is_leaf pm_are_expressions pm_rows_left pm_row_left pm_branches_left pm_is_if_head pm_is_plain_row pm_check_works pm_check_starts pm_handed_counts pm_check_start pm_starts_in pm_Book___init__ pm_Book_tree pm_code_of pm_rows_code pm_if_code pm_is_future pm_worth_of pm_path_of pm_reckon pm_reckon_number pm_as_number pm_operate pm_combine pm_Frame___init__ pm_Task___init__ pm_frame_of_work pm_room_of pm_next_row pm_waited_path pm_do_step pm_try_row pm_do_row pm_start_task pm_call_work pm_begun_frame pm_handed_on pm_give pm_wait_worth pm_name_and_move pm_move pm_serial pm_Run___init__ pm_Run_ends pm_first_task pm_are_numbers pm_walk pm_most_taken pm_Lbag pm_Ltake pm_Lkept pm_Lnames pm_Lnumber pm_Ltree pm_Largs pm_Lvalue pm_Ltold pm_Lis_right pm_Ledge pm_law cd_check_work cd_is_work cd_is_tuple_of cd_is_whole cd_is_whole_within cd_is_name cd_are_names cd_is_expression cd_is_leaf cd_are_expressions cd_rows_left cd_row_left cd_branches_left cd_is_if_head cd_is_plain_row cd_check_works cd_check_starts cd_handed_counts cd_check_start cd_starts_in cd_Book___init__ cd_Book_tree cd_code_of cd_rows_code cd_if_code cd_is_future cd_worth_of cd_path_of cd_reckon cd_reckon_number cd_as_number cd_operate cd_combine cd_Frame___init__ cd_Task___init__ cd_frame_of_work cd_room_of cd_next_row cd_waited_path cd_do_step cd_try_row cd_do_row cd_start_task cd_call_work cd_begun_frame cd_handed_on cd_give cd_wait_worth cd_name_and_move cd_move cd_serial cd_Run___init__ cd_Run_ends cd_first_task cd_are_numbers cd_walk cd_most_taken cd_Lbag cd_Ltake cd_Lkept cd_Lnames cd_Lnumber cd_Ltree cd_Largs cd_Lvalue cd_Ltold cd_Lis_right cd_Ledge cd_law ct_check_work ct_is_work ct_is_tuple_of ct_is_whole ct_is_whole_within ct_is_name ct_are_names ct_is_expression ct_is_leaf ct_are_expressions ct_rows_left ct_row_left ct_branches_left ct_is_if_head ct_is_plain_row ct_check_works ct_check_starts ct_handed_counts ct_check_start ct_starts_in ct_Book___init__ ct_Book_tree ct_code_of ct_rows_code ct_if_code ct_is_future ct_worth_of ct_path_of ct_reckon ct_reckon_number ct_as_number ct_operate ct_combine ct_Frame___init__ ct_Task___init__ ct_frame_of_work ct_room_of ct_next_row ct_waited_path ct_do_step ct_try_row ct_do_row ct_start_task ct_call_work ct_begun_frame ct_handed_on ct_give ct_wait_worth ct_name_and_move ct_move ct_serial ct_Run___init__ ct_Run_ends ct_first_task ct_are_numbers ct_walk ct_most_taken ct_Lbag ct_Ltake ct_Lkept ct_Lnames ct_Lnumber ct_Ltree ct_Largs ct_Lvalue ct_Ltold ct_Lis_right ct_Ledge ct_law : Value}
    {TD : Addr} {oTD : Obj} {iTD : List Value} {nTD : Nat}
    {DKF : Addr}
    {DKW : Addr}
    {DKB : Addr}
    {DKS : Addr}
    {C_Book : Addr} (aC_Book : PySem.W.nsIn K mainGlobals "Book" = some (some (.ref C_Book)))
    {C_Frame : Addr} (aC_Frame : PySem.W.nsIn K mainGlobals "Frame" = some (some (.ref C_Frame)))
    {C_Task : Addr} (aC_Task : PySem.W.nsIn K mainGlobals "Task" = some (some (.ref C_Task)))
    {C_Run : Addr} (aC_Run : PySem.W.nsIn K mainGlobals "Run" = some (some (.ref C_Run)))
    (a_check_work : PySem.W.nsIn K mainGlobals "check_work" = some (some (.ref f_check_work))) (l_check_work : K.lookup f_check_work = some ⟨oc_check_work, od_check_work, .func (PySem.W.fnOf "check_work" "check_work" (defArgs sChkWork) (defBody sChkWork) (defScope sChkWork) .none kV_check_work dc_check_work pm_check_work an_check_work cd_check_work ct_check_work), sl_check_work⟩) (c_check_work : PySem.W.codeIn K cd_check_work "check_work" = true) (k_check_work : PySem.W.keepIn K (.ref f_check_work) = true)
    (a_is_work : PySem.W.nsIn K mainGlobals "is_work" = some (some (.ref f_is_work))) (l_is_work : K.lookup f_is_work = some ⟨oc_is_work, od_is_work, .func (PySem.W.fnOf "is_work" "is_work" (defArgs sIsWork) (defBody sIsWork) (defScope sIsWork) .none kV_is_work dc_is_work pm_is_work an_is_work cd_is_work ct_is_work), sl_is_work⟩) (c_is_work : PySem.W.codeIn K cd_is_work "is_work" = true) (k_is_work : PySem.W.keepIn K (.ref f_is_work) = true)
    (a_is_tuple_of : PySem.W.nsIn K mainGlobals "is_tuple_of" = some (some (.ref f_is_tuple_of))) (l_is_tuple_of : K.lookup f_is_tuple_of = some ⟨oc_is_tuple_of, od_is_tuple_of, .func (PySem.W.fnOf "is_tuple_of" "is_tuple_of" (defArgs sTupOf) (defBody sTupOf) (defScope sTupOf) .none kV_is_tuple_of dc_is_tuple_of pm_is_tuple_of an_is_tuple_of cd_is_tuple_of ct_is_tuple_of), sl_is_tuple_of⟩) (c_is_tuple_of : PySem.W.codeIn K cd_is_tuple_of "is_tuple_of" = true) (k_is_tuple_of : PySem.W.keepIn K (.ref f_is_tuple_of) = true)
    (a_is_whole : PySem.W.nsIn K mainGlobals "is_whole" = some (some (.ref f_is_whole))) (l_is_whole : K.lookup f_is_whole = some ⟨oc_is_whole, od_is_whole, .func (PySem.W.fnOf "is_whole" "is_whole" (defArgs sWhole) (defBody sWhole) (defScope sWhole) .none kV_is_whole dc_is_whole pm_is_whole an_is_whole cd_is_whole ct_is_whole), sl_is_whole⟩) (c_is_whole : PySem.W.codeIn K cd_is_whole "is_whole" = true) (k_is_whole : PySem.W.keepIn K (.ref f_is_whole) = true)
    (a_is_whole_within : PySem.W.nsIn K mainGlobals "is_whole_within" = some (some (.ref f_is_whole_within))) (l_is_whole_within : K.lookup f_is_whole_within = some ⟨oc_is_whole_within, od_is_whole_within, .func (PySem.W.fnOf "is_whole_within" "is_whole_within" (defArgs sWithin) (defBody sWithin) (defScope sWithin) .none kV_is_whole_within dc_is_whole_within pm_is_whole_within an_is_whole_within cd_is_whole_within ct_is_whole_within), sl_is_whole_within⟩) (c_is_whole_within : PySem.W.codeIn K cd_is_whole_within "is_whole_within" = true) (k_is_whole_within : PySem.W.keepIn K (.ref f_is_whole_within) = true)
    (a_is_name : PySem.W.nsIn K mainGlobals "is_name" = some (some (.ref f_is_name))) (l_is_name : K.lookup f_is_name = some ⟨oc_is_name, od_is_name, .func (PySem.W.fnOf "is_name" "is_name" (defArgs sIsName) (defBody sIsName) (defScope sIsName) .none kV_is_name dc_is_name pm_is_name an_is_name cd_is_name ct_is_name), sl_is_name⟩) (c_is_name : PySem.W.codeIn K cd_is_name "is_name" = true) (k_is_name : PySem.W.keepIn K (.ref f_is_name) = true)
    (a_are_names : PySem.W.nsIn K mainGlobals "are_names" = some (some (.ref f_are_names))) (l_are_names : K.lookup f_are_names = some ⟨oc_are_names, od_are_names, .func (PySem.W.fnOf "are_names" "are_names" (defArgs sAreNames) (defBody sAreNames) (defScope sAreNames) .none kV_are_names dc_are_names pm_are_names an_are_names cd_are_names ct_are_names), sl_are_names⟩) (c_are_names : PySem.W.codeIn K cd_are_names "are_names" = true) (k_are_names : PySem.W.keepIn K (.ref f_are_names) = true)
    (a_is_expression : PySem.W.nsIn K mainGlobals "is_expression" = some (some (.ref f_is_expression))) (l_is_expression : K.lookup f_is_expression = some ⟨oc_is_expression, od_is_expression, .func (PySem.W.fnOf "is_expression" "is_expression" (defArgs sIsEx) (defBody sIsEx) (defScope sIsEx) (.ref TD) kV_is_expression dc_is_expression pm_is_expression an_is_expression cd_is_expression ct_is_expression), sl_is_expression⟩) (c_is_expression : PySem.W.codeIn K cd_is_expression "is_expression" = true) (k_is_expression : PySem.W.keepIn K (.ref f_is_expression) = true)
    (a_is_leaf : PySem.W.nsIn K mainGlobals "is_leaf" = some (some (.ref f_is_leaf))) (l_is_leaf : K.lookup f_is_leaf = some ⟨oc_is_leaf, od_is_leaf, .func (PySem.W.fnOf "is_leaf" "is_leaf" (defArgs sLeaf) (defBody sLeaf) (defScope sLeaf) .none kV_is_leaf dc_is_leaf pm_is_leaf an_is_leaf cd_is_leaf ct_is_leaf), sl_is_leaf⟩) (c_is_leaf : PySem.W.codeIn K cd_is_leaf "is_leaf" = true) (k_is_leaf : PySem.W.keepIn K (.ref f_is_leaf) = true)
    (a_are_expressions : PySem.W.nsIn K mainGlobals "are_expressions" = some (some (.ref f_are_expressions))) (l_are_expressions : K.lookup f_are_expressions = some ⟨oc_are_expressions, od_are_expressions, .func (PySem.W.fnOf "are_expressions" "are_expressions" (defArgs sAreEx) (defBody sAreEx) (defScope sAreEx) .none kV_are_expressions dc_are_expressions pm_are_expressions an_are_expressions cd_are_expressions ct_are_expressions), sl_are_expressions⟩) (c_are_expressions : PySem.W.codeIn K cd_are_expressions "are_expressions" = true) (k_are_expressions : PySem.W.keepIn K (.ref f_are_expressions) = true)
    (a_rows_left : PySem.W.nsIn K mainGlobals "rows_left" = some (some (.ref f_rows_left))) (l_rows_left : K.lookup f_rows_left = some ⟨oc_rows_left, od_rows_left, .func (PySem.W.fnOf "rows_left" "rows_left" (defArgs sRowsL) (defBody sRowsL) (defScope sRowsL) .none kV_rows_left dc_rows_left pm_rows_left an_rows_left cd_rows_left ct_rows_left), sl_rows_left⟩) (c_rows_left : PySem.W.codeIn K cd_rows_left "rows_left" = true) (k_rows_left : PySem.W.keepIn K (.ref f_rows_left) = true)
    (a_row_left : PySem.W.nsIn K mainGlobals "row_left" = some (some (.ref f_row_left))) (l_row_left : K.lookup f_row_left = some ⟨oc_row_left, od_row_left, .func (PySem.W.fnOf "row_left" "row_left" (defArgs sRowL) (defBody sRowL) (defScope sRowL) .none kV_row_left dc_row_left pm_row_left an_row_left cd_row_left ct_row_left), sl_row_left⟩) (c_row_left : PySem.W.codeIn K cd_row_left "row_left" = true) (k_row_left : PySem.W.keepIn K (.ref f_row_left) = true)
    (a_branches_left : PySem.W.nsIn K mainGlobals "branches_left" = some (some (.ref f_branches_left))) (l_branches_left : K.lookup f_branches_left = some ⟨oc_branches_left, od_branches_left, .func (PySem.W.fnOf "branches_left" "branches_left" (defArgs sBranL) (defBody sBranL) (defScope sBranL) .none kV_branches_left dc_branches_left pm_branches_left an_branches_left cd_branches_left ct_branches_left), sl_branches_left⟩) (c_branches_left : PySem.W.codeIn K cd_branches_left "branches_left" = true) (k_branches_left : PySem.W.keepIn K (.ref f_branches_left) = true)
    (a_is_if_head : PySem.W.nsIn K mainGlobals "is_if_head" = some (some (.ref f_is_if_head))) (l_is_if_head : K.lookup f_is_if_head = some ⟨oc_is_if_head, od_is_if_head, .func (PySem.W.fnOf "is_if_head" "is_if_head" (defArgs sIfHead) (defBody sIfHead) (defScope sIfHead) .none kV_is_if_head dc_is_if_head pm_is_if_head an_is_if_head cd_is_if_head ct_is_if_head), sl_is_if_head⟩) (c_is_if_head : PySem.W.codeIn K cd_is_if_head "is_if_head" = true) (k_is_if_head : PySem.W.keepIn K (.ref f_is_if_head) = true)
    (a_is_plain_row : PySem.W.nsIn K mainGlobals "is_plain_row" = some (some (.ref f_is_plain_row))) (l_is_plain_row : K.lookup f_is_plain_row = some ⟨oc_is_plain_row, od_is_plain_row, .func (PySem.W.fnOf "is_plain_row" "is_plain_row" (defArgs sPlain) (defBody sPlain) (defScope sPlain) .none kV_is_plain_row dc_is_plain_row pm_is_plain_row an_is_plain_row cd_is_plain_row ct_is_plain_row), sl_is_plain_row⟩) (c_is_plain_row : PySem.W.codeIn K cd_is_plain_row "is_plain_row" = true) (k_is_plain_row : PySem.W.keepIn K (.ref f_is_plain_row) = true)
    (a_check_works : PySem.W.nsIn K mainGlobals "check_works" = some (some (.ref f_check_works))) (l_check_works : K.lookup f_check_works = some ⟨oc_check_works, od_check_works, .func (PySem.W.fnOf "check_works" "check_works" (defArgs sChkWorks) (defBody sChkWorks) (defScope sChkWorks) .none kV_check_works dc_check_works pm_check_works an_check_works cd_check_works ct_check_works), sl_check_works⟩) (c_check_works : PySem.W.codeIn K cd_check_works "check_works" = true) (k_check_works : PySem.W.keepIn K (.ref f_check_works) = true)
    (a_check_starts : PySem.W.nsIn K mainGlobals "check_starts" = some (some (.ref f_check_starts))) (l_check_starts : K.lookup f_check_starts = some ⟨oc_check_starts, od_check_starts, .func (PySem.W.fnOf "check_starts" "check_starts" (defArgs sChkStarts) (defBody sChkStarts) (defScope sChkStarts) .none kV_check_starts dc_check_starts pm_check_starts an_check_starts cd_check_starts ct_check_starts), sl_check_starts⟩) (c_check_starts : PySem.W.codeIn K cd_check_starts "check_starts" = true) (k_check_starts : PySem.W.keepIn K (.ref f_check_starts) = true)
    (a_handed_counts : PySem.W.nsIn K mainGlobals "handed_counts" = some (some (.ref f_handed_counts))) (l_handed_counts : K.lookup f_handed_counts = some ⟨oc_handed_counts, od_handed_counts, .func (PySem.W.fnOf "handed_counts" "handed_counts" (defArgs sHanded) (defBody sHanded) (defScope sHanded) .none kV_handed_counts dc_handed_counts pm_handed_counts an_handed_counts cd_handed_counts ct_handed_counts), sl_handed_counts⟩) (c_handed_counts : PySem.W.codeIn K cd_handed_counts "handed_counts" = true) (k_handed_counts : PySem.W.keepIn K (.ref f_handed_counts) = true)
    (a_check_start : PySem.W.nsIn K mainGlobals "check_start" = some (some (.ref f_check_start))) (l_check_start : K.lookup f_check_start = some ⟨oc_check_start, od_check_start, .func (PySem.W.fnOf "check_start" "check_start" (defArgs sChkStart) (defBody sChkStart) (defScope sChkStart) .none kV_check_start dc_check_start pm_check_start an_check_start cd_check_start ct_check_start), sl_check_start⟩) (c_check_start : PySem.W.codeIn K cd_check_start "check_start" = true) (k_check_start : PySem.W.keepIn K (.ref f_check_start) = true)
    (a_starts_in : PySem.W.nsIn K mainGlobals "starts_in" = some (some (.ref f_starts_in))) (l_starts_in : K.lookup f_starts_in = some ⟨oc_starts_in, od_starts_in, .func (PySem.W.fnOf "starts_in" "starts_in" (defArgs sStartsIn) (defBody sStartsIn) (defScope sStartsIn) .none kV_starts_in dc_starts_in pm_starts_in an_starts_in cd_starts_in ct_starts_in), sl_starts_in⟩) (c_starts_in : PySem.W.codeIn K cd_starts_in "starts_in" = true) (k_starts_in : PySem.W.keepIn K (.ref f_starts_in) = true)
    (a_Book___init__ : PySem.W.findIn K (.ref C_Book) "__init__" = some (some (.ref f_Book___init__))) (l_Book___init__ : K.lookup f_Book___init__ = some ⟨oc_Book___init__, od_Book___init__, .func (PySem.W.fnOf "__init__" "Book.__init__" (defArgs sBookInit) (defBody sBookInit) (defScope sBookInit) .none kV_Book___init__ dc_Book___init__ pm_Book___init__ an_Book___init__ cd_Book___init__ ct_Book___init__), sl_Book___init__⟩) (c_Book___init__ : PySem.W.codeIn K cd_Book___init__ "Book.__init__" = true) (k_Book___init__ : PySem.W.keepIn K (.ref f_Book___init__) = true)
    (i_Book___init__ : PySem.W.isFn K (.ref f_Book___init__) = true)
    (a_Book_tree : PySem.W.findIn K (.ref C_Book) "tree" = some (some (.ref f_Book_tree))) (l_Book_tree : K.lookup f_Book_tree = some ⟨oc_Book_tree, od_Book_tree, .func (PySem.W.fnOf "tree" "Book.tree" (defArgs sBookTree) (defBody sBookTree) (defScope sBookTree) .none kV_Book_tree dc_Book_tree pm_Book_tree an_Book_tree cd_Book_tree ct_Book_tree), sl_Book_tree⟩) (c_Book_tree : PySem.W.codeIn K cd_Book_tree "Book.tree" = true) (k_Book_tree : PySem.W.keepIn K (.ref f_Book_tree) = true)
    (i_Book_tree : PySem.W.isFn K (.ref f_Book_tree) = true)
    (a_code_of : PySem.W.nsIn K mainGlobals "code_of" = some (some (.ref f_code_of))) (l_code_of : K.lookup f_code_of = some ⟨oc_code_of, od_code_of, .func (PySem.W.fnOf "code_of" "code_of" (defArgs sCodeOf) (defBody sCodeOf) (defScope sCodeOf) .none kV_code_of dc_code_of pm_code_of an_code_of cd_code_of ct_code_of), sl_code_of⟩) (c_code_of : PySem.W.codeIn K cd_code_of "code_of" = true) (k_code_of : PySem.W.keepIn K (.ref f_code_of) = true)
    (a_rows_code : PySem.W.nsIn K mainGlobals "rows_code" = some (some (.ref f_rows_code))) (l_rows_code : K.lookup f_rows_code = some ⟨oc_rows_code, od_rows_code, .func (PySem.W.fnOf "rows_code" "rows_code" (defArgs sRowsCode) (defBody sRowsCode) (defScope sRowsCode) .none kV_rows_code dc_rows_code pm_rows_code an_rows_code cd_rows_code ct_rows_code), sl_rows_code⟩) (c_rows_code : PySem.W.codeIn K cd_rows_code "rows_code" = true) (k_rows_code : PySem.W.keepIn K (.ref f_rows_code) = true)
    (a_if_code : PySem.W.nsIn K mainGlobals "if_code" = some (some (.ref f_if_code))) (l_if_code : K.lookup f_if_code = some ⟨oc_if_code, od_if_code, .func (PySem.W.fnOf "if_code" "if_code" (defArgs sIfCode) (defBody sIfCode) (defScope sIfCode) .none kV_if_code dc_if_code pm_if_code an_if_code cd_if_code ct_if_code), sl_if_code⟩) (c_if_code : PySem.W.codeIn K cd_if_code "if_code" = true) (k_if_code : PySem.W.keepIn K (.ref f_if_code) = true)
    (a_is_future : PySem.W.nsIn K mainGlobals "is_future" = some (some (.ref f_is_future))) (l_is_future : K.lookup f_is_future = some ⟨oc_is_future, od_is_future, .func (PySem.W.fnOf "is_future" "is_future" (defArgs sIsFut) (defBody sIsFut) (defScope sIsFut) .none kV_is_future dc_is_future pm_is_future an_is_future cd_is_future ct_is_future), sl_is_future⟩) (c_is_future : PySem.W.codeIn K cd_is_future "is_future" = true) (k_is_future : PySem.W.keepIn K (.ref f_is_future) = true)
    (a_worth_of : PySem.W.nsIn K mainGlobals "worth_of" = some (some (.ref f_worth_of))) (l_worth_of : K.lookup f_worth_of = some ⟨oc_worth_of, od_worth_of, .func (PySem.W.fnOf "worth_of" "worth_of" (defArgs sWorthOf) (defBody sWorthOf) (defScope sWorthOf) .none kV_worth_of dc_worth_of pm_worth_of an_worth_of cd_worth_of ct_worth_of), sl_worth_of⟩) (c_worth_of : PySem.W.codeIn K cd_worth_of "worth_of" = true) (k_worth_of : PySem.W.keepIn K (.ref f_worth_of) = true)
    (a_path_of : PySem.W.nsIn K mainGlobals "path_of" = some (some (.ref f_path_of))) (l_path_of : K.lookup f_path_of = some ⟨oc_path_of, od_path_of, .func (PySem.W.fnOf "path_of" "path_of" (defArgs sPathOf) (defBody sPathOf) (defScope sPathOf) .none kV_path_of dc_path_of pm_path_of an_path_of cd_path_of ct_path_of), sl_path_of⟩) (c_path_of : PySem.W.codeIn K cd_path_of "path_of" = true) (k_path_of : PySem.W.keepIn K (.ref f_path_of) = true)
    (a_reckon : PySem.W.nsIn K mainGlobals "reckon" = some (some (.ref f_reckon))) (l_reckon : K.lookup f_reckon = some ⟨oc_reckon, od_reckon, .func (PySem.W.fnOf "reckon" "reckon" (defArgs sReckon) (defBody sReckon) (defScope sReckon) .none kV_reckon dc_reckon pm_reckon an_reckon cd_reckon ct_reckon), sl_reckon⟩) (c_reckon : PySem.W.codeIn K cd_reckon "reckon" = true) (k_reckon : PySem.W.keepIn K (.ref f_reckon) = true)
    (a_reckon_number : PySem.W.nsIn K mainGlobals "reckon_number" = some (some (.ref f_reckon_number))) (l_reckon_number : K.lookup f_reckon_number = some ⟨oc_reckon_number, od_reckon_number, .func (PySem.W.fnOf "reckon_number" "reckon_number" (defArgs sReckonN) (defBody sReckonN) (defScope sReckonN) .none kV_reckon_number dc_reckon_number pm_reckon_number an_reckon_number cd_reckon_number ct_reckon_number), sl_reckon_number⟩) (c_reckon_number : PySem.W.codeIn K cd_reckon_number "reckon_number" = true) (k_reckon_number : PySem.W.keepIn K (.ref f_reckon_number) = true)
    (a_as_number : PySem.W.nsIn K mainGlobals "as_number" = some (some (.ref f_as_number))) (l_as_number : K.lookup f_as_number = some ⟨oc_as_number, od_as_number, .func (PySem.W.fnOf "as_number" "as_number" (defArgs sAsNum) (defBody sAsNum) (defScope sAsNum) .none kV_as_number dc_as_number pm_as_number an_as_number cd_as_number ct_as_number), sl_as_number⟩) (c_as_number : PySem.W.codeIn K cd_as_number "as_number" = true) (k_as_number : PySem.W.keepIn K (.ref f_as_number) = true)
    (a_operate : PySem.W.nsIn K mainGlobals "operate" = some (some (.ref f_operate))) (l_operate : K.lookup f_operate = some ⟨oc_operate, od_operate, .func (PySem.W.fnOf "operate" "operate" (defArgs sOperate) (defBody sOperate) (defScope sOperate) .none kV_operate dc_operate pm_operate an_operate cd_operate ct_operate), sl_operate⟩) (c_operate : PySem.W.codeIn K cd_operate "operate" = true) (k_operate : PySem.W.keepIn K (.ref f_operate) = true)
    (a_combine : PySem.W.nsIn K mainGlobals "combine" = some (some (.ref f_combine))) (l_combine : K.lookup f_combine = some ⟨oc_combine, od_combine, .func (PySem.W.fnOf "combine" "combine" (defArgs sCombine) (defBody sCombine) (defScope sCombine) .none kV_combine dc_combine pm_combine an_combine cd_combine ct_combine), sl_combine⟩) (c_combine : PySem.W.codeIn K cd_combine "combine" = true) (k_combine : PySem.W.keepIn K (.ref f_combine) = true)
    (a_Frame___init__ : PySem.W.findIn K (.ref C_Frame) "__init__" = some (some (.ref f_Frame___init__))) (l_Frame___init__ : K.lookup f_Frame___init__ = some ⟨oc_Frame___init__, od_Frame___init__, .func (PySem.W.fnOf "__init__" "Frame.__init__" (defArgs sFrameInit) (defBody sFrameInit) (defScope sFrameInit) .none (.ref DKF) dc_Frame___init__ pm_Frame___init__ an_Frame___init__ cd_Frame___init__ ct_Frame___init__), sl_Frame___init__⟩) (c_Frame___init__ : PySem.W.codeIn K cd_Frame___init__ "Frame.__init__" = true) (k_Frame___init__ : PySem.W.keepIn K (.ref f_Frame___init__) = true)
    (i_Frame___init__ : PySem.W.isFn K (.ref f_Frame___init__) = true)
    (a_Task___init__ : PySem.W.findIn K (.ref C_Task) "__init__" = some (some (.ref f_Task___init__))) (l_Task___init__ : K.lookup f_Task___init__ = some ⟨oc_Task___init__, od_Task___init__, .func (PySem.W.fnOf "__init__" "Task.__init__" (defArgs sTaskInit) (defBody sTaskInit) (defScope sTaskInit) .none kV_Task___init__ dc_Task___init__ pm_Task___init__ an_Task___init__ cd_Task___init__ ct_Task___init__), sl_Task___init__⟩) (c_Task___init__ : PySem.W.codeIn K cd_Task___init__ "Task.__init__" = true) (k_Task___init__ : PySem.W.keepIn K (.ref f_Task___init__) = true)
    (i_Task___init__ : PySem.W.isFn K (.ref f_Task___init__) = true)
    (a_frame_of_work : PySem.W.nsIn K mainGlobals "frame_of_work" = some (some (.ref f_frame_of_work))) (l_frame_of_work : K.lookup f_frame_of_work = some ⟨oc_frame_of_work, od_frame_of_work, .func (PySem.W.fnOf "frame_of_work" "frame_of_work" (defArgs sFrameOf) (defBody sFrameOf) (defScope sFrameOf) .none (.ref DKW) dc_frame_of_work pm_frame_of_work an_frame_of_work cd_frame_of_work ct_frame_of_work), sl_frame_of_work⟩) (c_frame_of_work : PySem.W.codeIn K cd_frame_of_work "frame_of_work" = true) (k_frame_of_work : PySem.W.keepIn K (.ref f_frame_of_work) = true)
    (a_room_of : PySem.W.nsIn K mainGlobals "room_of" = some (some (.ref f_room_of))) (l_room_of : K.lookup f_room_of = some ⟨oc_room_of, od_room_of, .func (PySem.W.fnOf "room_of" "room_of" (defArgs sRoomOf) (defBody sRoomOf) (defScope sRoomOf) .none kV_room_of dc_room_of pm_room_of an_room_of cd_room_of ct_room_of), sl_room_of⟩) (c_room_of : PySem.W.codeIn K cd_room_of "room_of" = true) (k_room_of : PySem.W.keepIn K (.ref f_room_of) = true)
    (a_next_row : PySem.W.nsIn K mainGlobals "next_row" = some (some (.ref f_next_row))) (l_next_row : K.lookup f_next_row = some ⟨oc_next_row, od_next_row, .func (PySem.W.fnOf "next_row" "next_row" (defArgs sNextRow) (defBody sNextRow) (defScope sNextRow) .none kV_next_row dc_next_row pm_next_row an_next_row cd_next_row ct_next_row), sl_next_row⟩) (c_next_row : PySem.W.codeIn K cd_next_row "next_row" = true) (k_next_row : PySem.W.keepIn K (.ref f_next_row) = true)
    (a_waited_path : PySem.W.nsIn K mainGlobals "waited_path" = some (some (.ref f_waited_path))) (l_waited_path : K.lookup f_waited_path = some ⟨oc_waited_path, od_waited_path, .func (PySem.W.fnOf "waited_path" "waited_path" (defArgs sWaited) (defBody sWaited) (defScope sWaited) .none kV_waited_path dc_waited_path pm_waited_path an_waited_path cd_waited_path ct_waited_path), sl_waited_path⟩) (c_waited_path : PySem.W.codeIn K cd_waited_path "waited_path" = true) (k_waited_path : PySem.W.keepIn K (.ref f_waited_path) = true)
    (a_do_step : PySem.W.nsIn K mainGlobals "do_step" = some (some (.ref f_do_step))) (l_do_step : K.lookup f_do_step = some ⟨oc_do_step, od_do_step, .func (PySem.W.fnOf "do_step" "do_step" (defArgs sStep) (defBody sStep) (defScope sStep) .none kV_do_step dc_do_step pm_do_step an_do_step cd_do_step ct_do_step), sl_do_step⟩) (c_do_step : PySem.W.codeIn K cd_do_step "do_step" = true) (k_do_step : PySem.W.keepIn K (.ref f_do_step) = true)
    (a_try_row : PySem.W.nsIn K mainGlobals "try_row" = some (some (.ref f_try_row))) (l_try_row : K.lookup f_try_row = some ⟨oc_try_row, od_try_row, .func (PySem.W.fnOf "try_row" "try_row" (defArgs sTryRow) (defBody sTryRow) (defScope sTryRow) .none kV_try_row dc_try_row pm_try_row an_try_row cd_try_row ct_try_row), sl_try_row⟩) (c_try_row : PySem.W.codeIn K cd_try_row "try_row" = true) (k_try_row : PySem.W.keepIn K (.ref f_try_row) = true)
    (a_do_row : PySem.W.nsIn K mainGlobals "do_row" = some (some (.ref f_do_row))) (l_do_row : K.lookup f_do_row = some ⟨oc_do_row, od_do_row, .func (PySem.W.fnOf "do_row" "do_row" (defArgs sDoRow) (defBody sDoRow) (defScope sDoRow) .none kV_do_row dc_do_row pm_do_row an_do_row cd_do_row ct_do_row), sl_do_row⟩) (c_do_row : PySem.W.codeIn K cd_do_row "do_row" = true) (k_do_row : PySem.W.keepIn K (.ref f_do_row) = true)
    (a_start_task : PySem.W.nsIn K mainGlobals "start_task" = some (some (.ref f_start_task))) (l_start_task : K.lookup f_start_task = some ⟨oc_start_task, od_start_task, .func (PySem.W.fnOf "start_task" "start_task" (defArgs sStart) (defBody sStart) (defScope sStart) .none kV_start_task dc_start_task pm_start_task an_start_task cd_start_task ct_start_task), sl_start_task⟩) (c_start_task : PySem.W.codeIn K cd_start_task "start_task" = true) (k_start_task : PySem.W.keepIn K (.ref f_start_task) = true)
    (a_call_work : PySem.W.nsIn K mainGlobals "call_work" = some (some (.ref f_call_work))) (l_call_work : K.lookup f_call_work = some ⟨oc_call_work, od_call_work, .func (PySem.W.fnOf "call_work" "call_work" (defArgs sCallW) (defBody sCallW) (defScope sCallW) .none kV_call_work dc_call_work pm_call_work an_call_work cd_call_work ct_call_work), sl_call_work⟩) (c_call_work : PySem.W.codeIn K cd_call_work "call_work" = true) (k_call_work : PySem.W.keepIn K (.ref f_call_work) = true)
    (a_begun_frame : PySem.W.nsIn K mainGlobals "begun_frame" = some (some (.ref f_begun_frame))) (l_begun_frame : K.lookup f_begun_frame = some ⟨oc_begun_frame, od_begun_frame, .func (PySem.W.fnOf "begun_frame" "begun_frame" (defArgs sBegun) (defBody sBegun) (defScope sBegun) .none (.ref DKB) dc_begun_frame pm_begun_frame an_begun_frame cd_begun_frame ct_begun_frame), sl_begun_frame⟩) (c_begun_frame : PySem.W.codeIn K cd_begun_frame "begun_frame" = true) (k_begun_frame : PySem.W.keepIn K (.ref f_begun_frame) = true)
    (a_handed_on : PySem.W.nsIn K mainGlobals "handed_on" = some (some (.ref f_handed_on))) (l_handed_on : K.lookup f_handed_on = some ⟨oc_handed_on, od_handed_on, .func (PySem.W.fnOf "handed_on" "handed_on" (defArgs sHandedOn) (defBody sHandedOn) (defScope sHandedOn) .none kV_handed_on dc_handed_on pm_handed_on an_handed_on cd_handed_on ct_handed_on), sl_handed_on⟩) (c_handed_on : PySem.W.codeIn K cd_handed_on "handed_on" = true) (k_handed_on : PySem.W.keepIn K (.ref f_handed_on) = true)
    (a_give : PySem.W.nsIn K mainGlobals "give" = some (some (.ref f_give))) (l_give : K.lookup f_give = some ⟨oc_give, od_give, .func (PySem.W.fnOf "give" "give" (defArgs sGive) (defBody sGive) (defScope sGive) .none kV_give dc_give pm_give an_give cd_give ct_give), sl_give⟩) (c_give : PySem.W.codeIn K cd_give "give" = true) (k_give : PySem.W.keepIn K (.ref f_give) = true)
    (a_wait_worth : PySem.W.nsIn K mainGlobals "wait_worth" = some (some (.ref f_wait_worth))) (l_wait_worth : K.lookup f_wait_worth = some ⟨oc_wait_worth, od_wait_worth, .func (PySem.W.fnOf "wait_worth" "wait_worth" (defArgs sWaitW) (defBody sWaitW) (defScope sWaitW) .none kV_wait_worth dc_wait_worth pm_wait_worth an_wait_worth cd_wait_worth ct_wait_worth), sl_wait_worth⟩) (c_wait_worth : PySem.W.codeIn K cd_wait_worth "wait_worth" = true) (k_wait_worth : PySem.W.keepIn K (.ref f_wait_worth) = true)
    (a_name_and_move : PySem.W.nsIn K mainGlobals "name_and_move" = some (some (.ref f_name_and_move))) (l_name_and_move : K.lookup f_name_and_move = some ⟨oc_name_and_move, od_name_and_move, .func (PySem.W.fnOf "name_and_move" "name_and_move" (defArgs sNameMove) (defBody sNameMove) (defScope sNameMove) .none kV_name_and_move dc_name_and_move pm_name_and_move an_name_and_move cd_name_and_move ct_name_and_move), sl_name_and_move⟩) (c_name_and_move : PySem.W.codeIn K cd_name_and_move "name_and_move" = true) (k_name_and_move : PySem.W.keepIn K (.ref f_name_and_move) = true)
    (a_move : PySem.W.nsIn K mainGlobals "move" = some (some (.ref f_move))) (l_move : K.lookup f_move = some ⟨oc_move, od_move, .func (PySem.W.fnOf "move" "move" (defArgs sMove) (defBody sMove) (defScope sMove) .none kV_move dc_move pm_move an_move cd_move ct_move), sl_move⟩) (c_move : PySem.W.codeIn K cd_move "move" = true) (k_move : PySem.W.keepIn K (.ref f_move) = true)
    (a_serial : PySem.W.nsIn K mainGlobals "serial" = some (some (.ref f_serial))) (l_serial : K.lookup f_serial = some ⟨oc_serial, od_serial, .func (PySem.W.fnOf "serial" "serial" (defArgs sSerial) (defBody sSerial) (defScope sSerial) .none (.ref DKS) dc_serial pm_serial an_serial cd_serial ct_serial), sl_serial⟩) (c_serial : PySem.W.codeIn K cd_serial "serial" = true) (k_serial : PySem.W.keepIn K (.ref f_serial) = true)
    (a_Run___init__ : PySem.W.findIn K (.ref C_Run) "__init__" = some (some (.ref f_Run___init__))) (l_Run___init__ : K.lookup f_Run___init__ = some ⟨oc_Run___init__, od_Run___init__, .func (PySem.W.fnOf "__init__" "Run.__init__" (defArgs sRunInit) (defBody sRunInit) (defScope sRunInit) .none kV_Run___init__ dc_Run___init__ pm_Run___init__ an_Run___init__ cd_Run___init__ ct_Run___init__), sl_Run___init__⟩) (c_Run___init__ : PySem.W.codeIn K cd_Run___init__ "Run.__init__" = true) (k_Run___init__ : PySem.W.keepIn K (.ref f_Run___init__) = true)
    (i_Run___init__ : PySem.W.isFn K (.ref f_Run___init__) = true)
    (a_Run_ends : PySem.W.findIn K (.ref C_Run) "ends" = some (some (.ref f_Run_ends))) (l_Run_ends : K.lookup f_Run_ends = some ⟨oc_Run_ends, od_Run_ends, .func (PySem.W.fnOf "ends" "Run.ends" (defArgs sEnds) (defBody sEnds) (defScope sEnds) .none kV_Run_ends dc_Run_ends pm_Run_ends an_Run_ends cd_Run_ends ct_Run_ends), sl_Run_ends⟩) (c_Run_ends : PySem.W.codeIn K cd_Run_ends "Run.ends" = true) (k_Run_ends : PySem.W.keepIn K (.ref f_Run_ends) = true)
    (i_Run_ends : PySem.W.isFn K (.ref f_Run_ends) = true)
    (a_first_task : PySem.W.nsIn K mainGlobals "first_task" = some (some (.ref f_first_task))) (l_first_task : K.lookup f_first_task = some ⟨oc_first_task, od_first_task, .func (PySem.W.fnOf "first_task" "first_task" (defArgs sFirst) (defBody sFirst) (defScope sFirst) .none kV_first_task dc_first_task pm_first_task an_first_task cd_first_task ct_first_task), sl_first_task⟩) (c_first_task : PySem.W.codeIn K cd_first_task "first_task" = true) (k_first_task : PySem.W.keepIn K (.ref f_first_task) = true)
    (a_are_numbers : PySem.W.nsIn K mainGlobals "are_numbers" = some (some (.ref f_are_numbers))) (l_are_numbers : K.lookup f_are_numbers = some ⟨oc_are_numbers, od_are_numbers, .func (PySem.W.fnOf "are_numbers" "are_numbers" (defArgs sAreNums) (defBody sAreNums) (defScope sAreNums) .none kV_are_numbers dc_are_numbers pm_are_numbers an_are_numbers cd_are_numbers ct_are_numbers), sl_are_numbers⟩) (c_are_numbers : PySem.W.codeIn K cd_are_numbers "are_numbers" = true) (k_are_numbers : PySem.W.keepIn K (.ref f_are_numbers) = true)
    (a_walk : PySem.W.nsIn K mainGlobals "walk" = some (some (.ref f_walk))) (l_walk : K.lookup f_walk = some ⟨oc_walk, od_walk, .func (PySem.W.fnOf "walk" "walk" (defArgs sWalk) (defBody sWalk) (defScope sWalk) .none kV_walk dc_walk pm_walk an_walk cd_walk ct_walk), sl_walk⟩) (c_walk : PySem.W.codeIn K cd_walk "walk" = true) (k_walk : PySem.W.keepIn K (.ref f_walk) = true)
    (a_most_taken : PySem.W.nsIn K mainGlobals "most_taken" = some (some (.ref f_most_taken))) (l_most_taken : K.lookup f_most_taken = some ⟨oc_most_taken, od_most_taken, .func (PySem.W.fnOf "most_taken" "most_taken" (defArgs sMostT) (defBody sMostT) (defScope sMostT) .none kV_most_taken dc_most_taken pm_most_taken an_most_taken cd_most_taken ct_most_taken), sl_most_taken⟩) (c_most_taken : PySem.W.codeIn K cd_most_taken "most_taken" = true) (k_most_taken : PySem.W.keepIn K (.ref f_most_taken) = true)
    (a_Lbag : PySem.W.nsIn K mainGlobals "_law_bag" = some (some (.ref f_Lbag))) (l_Lbag : K.lookup f_Lbag = some ⟨oc_Lbag, od_Lbag, .func (PySem.W.fnOf "_law_bag" "_law_bag" (defArgs sBag) (defBody sBag) (defScope sBag) .none kV_Lbag dc_Lbag pm_Lbag an_Lbag cd_Lbag ct_Lbag), sl_Lbag⟩) (c_Lbag : PySem.W.codeIn K cd_Lbag "_law_bag" = true) (k_Lbag : PySem.W.keepIn K (.ref f_Lbag) = true)
    (a_Ltake : PySem.W.nsIn K mainGlobals "_law_take" = some (some (.ref f_Ltake))) (l_Ltake : K.lookup f_Ltake = some ⟨oc_Ltake, od_Ltake, .func (PySem.W.fnOf "_law_take" "_law_take" (defArgs sTake) (defBody sTake) (defScope sTake) .none kV_Ltake dc_Ltake pm_Ltake an_Ltake cd_Ltake ct_Ltake), sl_Ltake⟩) (c_Ltake : PySem.W.codeIn K cd_Ltake "_law_take" = true) (k_Ltake : PySem.W.keepIn K (.ref f_Ltake) = true)
    (a_Lkept : PySem.W.nsIn K mainGlobals "_law_kept" = some (some (.ref f_Lkept))) (l_Lkept : K.lookup f_Lkept = some ⟨oc_Lkept, od_Lkept, .func (PySem.W.fnOf "_law_kept" "_law_kept" (defArgs sKept) (defBody sKept) (defScope sKept) .none kV_Lkept dc_Lkept pm_Lkept an_Lkept cd_Lkept ct_Lkept), sl_Lkept⟩) (c_Lkept : PySem.W.codeIn K cd_Lkept "_law_kept" = true) (k_Lkept : PySem.W.keepIn K (.ref f_Lkept) = true)
    (a_Lnames : PySem.W.nsIn K mainGlobals "_law_names" = some (some (.ref f_Lnames))) (l_Lnames : K.lookup f_Lnames = some ⟨oc_Lnames, od_Lnames, .func (PySem.W.fnOf "_law_names" "_law_names" (defArgs sNames) (defBody sNames) (defScope sNames) .none kV_Lnames dc_Lnames pm_Lnames an_Lnames cd_Lnames ct_Lnames), sl_Lnames⟩) (c_Lnames : PySem.W.codeIn K cd_Lnames "_law_names" = true) (k_Lnames : PySem.W.keepIn K (.ref f_Lnames) = true)
    (a_Lnumber : PySem.W.nsIn K mainGlobals "_law_number" = some (some (.ref f_Lnumber))) (l_Lnumber : K.lookup f_Lnumber = some ⟨oc_Lnumber, od_Lnumber, .func (PySem.W.fnOf "_law_number" "_law_number" (defArgs sNumber) (defBody sNumber) (defScope sNumber) .none kV_Lnumber dc_Lnumber pm_Lnumber an_Lnumber cd_Lnumber ct_Lnumber), sl_Lnumber⟩) (c_Lnumber : PySem.W.codeIn K cd_Lnumber "_law_number" = true) (k_Lnumber : PySem.W.keepIn K (.ref f_Lnumber) = true)
    (a_Ltree : PySem.W.nsIn K mainGlobals "_law_tree" = some (some (.ref f_Ltree))) (l_Ltree : K.lookup f_Ltree = some ⟨oc_Ltree, od_Ltree, .func (PySem.W.fnOf "_law_tree" "_law_tree" (defArgs sTree) (defBody sTree) (defScope sTree) .none kV_Ltree dc_Ltree pm_Ltree an_Ltree cd_Ltree ct_Ltree), sl_Ltree⟩) (c_Ltree : PySem.W.codeIn K cd_Ltree "_law_tree" = true) (k_Ltree : PySem.W.keepIn K (.ref f_Ltree) = true)
    (a_Largs : PySem.W.nsIn K mainGlobals "_law_args" = some (some (.ref f_Largs))) (l_Largs : K.lookup f_Largs = some ⟨oc_Largs, od_Largs, .func (PySem.W.fnOf "_law_args" "_law_args" (defArgs sArgs) (defBody sArgs) (defScope sArgs) .none kV_Largs dc_Largs pm_Largs an_Largs cd_Largs ct_Largs), sl_Largs⟩) (c_Largs : PySem.W.codeIn K cd_Largs "_law_args" = true) (k_Largs : PySem.W.keepIn K (.ref f_Largs) = true)
    (a_Lvalue : PySem.W.nsIn K mainGlobals "_law_value" = some (some (.ref f_Lvalue))) (l_Lvalue : K.lookup f_Lvalue = some ⟨oc_Lvalue, od_Lvalue, .func (PySem.W.fnOf "_law_value" "_law_value" (defArgs sValue) (defBody sValue) (defScope sValue) .none kV_Lvalue dc_Lvalue pm_Lvalue an_Lvalue cd_Lvalue ct_Lvalue), sl_Lvalue⟩) (c_Lvalue : PySem.W.codeIn K cd_Lvalue "_law_value" = true) (k_Lvalue : PySem.W.keepIn K (.ref f_Lvalue) = true)
    (a_Ltold : PySem.W.nsIn K mainGlobals "_law_told" = some (some (.ref f_Ltold))) (l_Ltold : K.lookup f_Ltold = some ⟨oc_Ltold, od_Ltold, .func (PySem.W.fnOf "_law_told" "_law_told" (defArgs sTold) (defBody sTold) (defScope sTold) .none kV_Ltold dc_Ltold pm_Ltold an_Ltold cd_Ltold ct_Ltold), sl_Ltold⟩) (c_Ltold : PySem.W.codeIn K cd_Ltold "_law_told" = true) (k_Ltold : PySem.W.keepIn K (.ref f_Ltold) = true)
    (a_Lis_right : PySem.W.nsIn K mainGlobals "_law_is_right" = some (some (.ref f_Lis_right))) (l_Lis_right : K.lookup f_Lis_right = some ⟨oc_Lis_right, od_Lis_right, .func (PySem.W.fnOf "_law_is_right" "_law_is_right" (defArgs sRight) (defBody sRight) (defScope sRight) .none kV_Lis_right dc_Lis_right pm_Lis_right an_Lis_right cd_Lis_right ct_Lis_right), sl_Lis_right⟩) (c_Lis_right : PySem.W.codeIn K cd_Lis_right "_law_is_right" = true) (k_Lis_right : PySem.W.keepIn K (.ref f_Lis_right) = true)
    (a_Ledge : PySem.W.nsIn K mainGlobals "_law_edge" = some (some (.ref f_Ledge))) (l_Ledge : K.lookup f_Ledge = some ⟨oc_Ledge, od_Ledge, .func (PySem.W.fnOf "_law_edge" "_law_edge" (defArgs sEdge) (defBody sEdge) (defScope sEdge) .none kV_Ledge dc_Ledge pm_Ledge an_Ledge cd_Ledge ct_Ledge), sl_Ledge⟩) (c_Ledge : PySem.W.codeIn K cd_Ledge "_law_edge" = true) (k_Ledge : PySem.W.keepIn K (.ref f_Ledge) = true)
    (a_law : PySem.W.nsIn K mainGlobals "law" = some (some (.ref f_law))) (l_law : K.lookup f_law = some ⟨oc_law, od_law, .func (PySem.W.fnOf "law" "law" (defArgs sLaw) (defBody sLaw) (defScope sLaw) .none kV_law dc_law pm_law an_law cd_law ct_law), sl_law⟩) (c_law : PySem.W.codeIn K cd_law "law" = true) (k_law : PySem.W.keepIn K (.ref f_law) = true)
    (z_len : PySem.W.nsIn K mainGlobals "len" = some none)
    (z_abs : PySem.W.nsIn K mainGlobals "abs" = some none)
    (z_int : PySem.W.nsIn K mainGlobals "int" = some none)
    (z_str : PySem.W.nsIn K mainGlobals "str" = some none)
    (z_range : PySem.W.nsIn K mainGlobals "range" = some none)
    (z_max : PySem.W.nsIn K mainGlobals "max" = some none)
    (z_min : PySem.W.nsIn K mainGlobals "min" = some none)
    (z_isinstance : PySem.W.nsIn K mainGlobals "isinstance" = some none)
    (z_all : PySem.W.nsIn K mainGlobals "all" = some none)
    (z_tuple : PySem.W.nsIn K mainGlobals "tuple" = some none)
    (z_bool : PySem.W.nsIn K mainGlobals "bool" = some none)
    (z_set : PySem.W.nsIn K mainGlobals "set" = some none)
    (z_list : PySem.W.nsIn K mainGlobals "list" = some none)
    (z_repr : PySem.W.nsIn K mainGlobals "repr" = some none)
    (z_super : PySem.W.nsIn K mainGlobals "super" = some none)
    (z_zip : PySem.W.nsIn K mainGlobals "zip" = some none)
    (z_dict : PySem.W.nsIn K mainGlobals "dict" = some none)
    (z_sum : PySem.W.nsIn K mainGlobals "sum" = some none)
    (z_sorted : PySem.W.nsIn K mainGlobals "sorted" = some none)
    (pg_Book : PySem.W.plainGet K C_Book Str.empty = true) (hd_Book : PySem.W.hasDictIn K C_Book = true) (po_Book : PySem.W.plainOver K C_Book = true) (sa_Book : PySem.W.findIn K (.ref C_Book) "__setattr__" = some (some (.builtin "object.__setattr__"))) (mk_Book : PySem.W.makesIn K C_Book = true) (kc_Book : PySem.W.keepIn K (.ref C_Book) = true) (na_works_Book : PySem.W.findIn K (.ref C_Book) "works" = some none)
    (pg_Frame : PySem.W.plainGet K C_Frame Str.empty = true) (hd_Frame : PySem.W.hasDictIn K C_Frame = true) (po_Frame : PySem.W.plainOver K C_Frame = true) (sa_Frame : PySem.W.findIn K (.ref C_Frame) "__setattr__" = some (some (.builtin "object.__setattr__"))) (mk_Frame : PySem.W.makesIn K C_Frame = true) (kc_Frame : PySem.W.keepIn K (.ref C_Frame) = true) (na_code_Frame : PySem.W.findIn K (.ref C_Frame) "code" = some none) (na_room_Frame : PySem.W.findIn K (.ref C_Frame) "room" = some none) (na_worths_Frame : PySem.W.findIn K (.ref C_Frame) "worths" = some none) (na_depth_Frame : PySem.W.findIn K (.ref C_Frame) "depth" = some none) (na_number_Frame : PySem.W.findIn K (.ref C_Frame) "number" = some none) (na_place_Frame : PySem.W.findIn K (.ref C_Frame) "place" = some none)
    (pg_Task : PySem.W.plainGet K C_Task Str.empty = true) (hd_Task : PySem.W.hasDictIn K C_Task = true) (po_Task : PySem.W.plainOver K C_Task = true) (sa_Task : PySem.W.findIn K (.ref C_Task) "__setattr__" = some (some (.builtin "object.__setattr__"))) (mk_Task : PySem.W.makesIn K C_Task = true) (kc_Task : PySem.W.keepIn K (.ref C_Task) = true) (na_path_Task : PySem.W.findIn K (.ref C_Task) "path" = some none) (na_frames_Task : PySem.W.findIn K (.ref C_Task) "frames" = some none) (na_frames_begun_Task : PySem.W.findIn K (.ref C_Task) "frames_begun" = some none) (na_goes_Task : PySem.W.findIn K (.ref C_Task) "goes" = some none) (na_steps_Task : PySem.W.findIn K (.ref C_Task) "steps" = some none) (na_result_Task : PySem.W.findIn K (.ref C_Task) "result" = some none)
    (pg_Run : PySem.W.plainGet K C_Run Str.empty = true) (hd_Run : PySem.W.hasDictIn K C_Run = true) (po_Run : PySem.W.plainOver K C_Run = true) (sa_Run : PySem.W.findIn K (.ref C_Run) "__setattr__" = some (some (.builtin "object.__setattr__"))) (mk_Run : PySem.W.makesIn K C_Run = true) (kc_Run : PySem.W.keepIn K (.ref C_Run) = true) (na_result_Run : PySem.W.findIn K (.ref C_Run) "result" = some none) (na_count_Run : PySem.W.findIn K (.ref C_Run) "count" = some none) (na_most_Run : PySem.W.findIn K (.ref C_Run) "most" = some none) (na_results_Run : PySem.W.findIn K (.ref C_Run) "results" = some none)
    {tLt : Tok} (gLt : PySem.W.nsIn K mainGlobals "LETTERS" = some (some (.str "abcdefghijklmnopqrstuvwxyz" tLt)))
    {t_MOST_WORKS t_MOST_ROWS t_MOST_NAMES t_MOST_EXPRESSIONS t_MOST_IFS t_MOST_LETTERS t_MOST_ROOM t_MOST_NUMBER t_NO_ROWS t_NO_WORTH t_NO_NUMBER t_NO_FUTURE t_TOO_GREAT t_TOO_DEEP t_DEEPEST_FRAME t_CHANGE : Tok} (g_MOST_WORKS : PySem.W.nsIn K mainGlobals "MOST_WORKS" = some (some (.int 12 t_MOST_WORKS))) (g_MOST_ROWS : PySem.W.nsIn K mainGlobals "MOST_ROWS" = some (some (.int 40 t_MOST_ROWS))) (g_MOST_NAMES : PySem.W.nsIn K mainGlobals "MOST_NAMES" = some (some (.int 4 t_MOST_NAMES))) (g_MOST_EXPRESSIONS : PySem.W.nsIn K mainGlobals "MOST_EXPRESSIONS" = some (some (.int 4 t_MOST_EXPRESSIONS))) (g_MOST_IFS : PySem.W.nsIn K mainGlobals "MOST_IFS" = some (some (.int 3 t_MOST_IFS))) (g_MOST_LETTERS : PySem.W.nsIn K mainGlobals "MOST_LETTERS" = some (some (.int 8 t_MOST_LETTERS))) (g_MOST_ROOM : PySem.W.nsIn K mainGlobals "MOST_ROOM" = some (some (.int 1000 t_MOST_ROOM))) (g_MOST_NUMBER : PySem.W.nsIn K mainGlobals "MOST_NUMBER" = some (some (.int 999999999999999999999999999999 t_MOST_NUMBER))) (g_NO_ROWS : PySem.W.nsIn K mainGlobals "NO_ROWS" = some (some (.int (-1) t_NO_ROWS))) (g_NO_WORTH : PySem.W.nsIn K mainGlobals "NO_WORTH" = some (some (.int (-1) t_NO_WORTH))) (g_NO_NUMBER : PySem.W.nsIn K mainGlobals "NO_NUMBER" = some (some (.int (-2) t_NO_NUMBER))) (g_NO_FUTURE : PySem.W.nsIn K mainGlobals "NO_FUTURE" = some (some (.int (-3) t_NO_FUTURE))) (g_TOO_GREAT : PySem.W.nsIn K mainGlobals "TOO_GREAT" = some (some (.int (-4) t_TOO_GREAT))) (g_TOO_DEEP : PySem.W.nsIn K mainGlobals "TOO_DEEP" = some (some (.int (-5) t_TOO_DEEP))) (g_DEEPEST_FRAME : PySem.W.nsIn K mainGlobals "DEEPEST_FRAME" = some (some (.int 30 t_DEEPEST_FRAME))) (g_CHANGE : PySem.W.nsIn K mainGlobals "CHANGE" = some (some (.int 6 t_CHANGE)))
    {aW aS : Addr} {dW dS : Option Addr} {iW iS : List Value} {nW nS : Nat} {sW sS : Array (Option Value)} (gW : PySem.W.nsIn K mainGlobals "WORDS" = some (some (.ref aW)))(lW : K.lookup aW = some ⟨.type "tuple", dW, .seq iW.toArray nW, sW⟩)(vW : Vals (kept.map V.str) iW)(gS : PySem.W.nsIn K mainGlobals "SIGNS" = some (some (.ref aS)))(lS : K.lookup aS = some ⟨.type "tuple", dS, .seq iS.toArray nS, sS⟩)(vS : Vals (signsL.map V.str) iS)
    (lTD : K.lookup TD = some oTD)(oTD0 : oTD.data = .seq iTD.toArray nTD)(vTD : Vals [V.int 6] iTD)
    {tk1 tk2 tk3 tk4 tk5 : Tok} (kdW1 : PySem.W.nsIn K DKW "depth" = some (some (.int 1 tk1)))(kdW2 : PySem.W.nsIn K DKW "number" = some (some (.int 0 tk2)))(kdB : PySem.W.nsIn K DKB "number" = some (some (.int 0 tk3)))(kdF : PySem.W.nsIn K DKF "place" = some (some (.int 0 tk4)))(kdS : PySem.W.nsIn K DKS "budget" = some (some (.int 400 tk5)))
    {cMissing : Addr} (aMissing : PySem.W.nsIn K mainGlobals "Missing" = some (some (.ref cMissing)))(isMissing : PySem.W.isClsIn K cMissing = true)(tyMissing : PySem.W.typeIn K (.ref cMissing) = some (.type "type"))(suMissing : PySem.W.subIn K (.ref cMissing) (.ref cMissing) = some true)(sBMissing : PySem.W.subIn K (.ref cMissing) (.type "LookupError") = some true)
    {Xmnm Xmq : Str} {XmN : Addr} {Xmbs Xmbm : List Value} {Xmsn : List Str} {Xmsub : List Value} {Xmab : Bool} {Xmcol : Option Bool} {Xmdd : Option Addr} {Xmk0 Xmk1 Xmk2 Xmk3 Xmk5 : Option Value} (Xmcls : K.lookup cMissing = some (excClassObj Xmnm Xmq cMissing XmN Xmbs Xmbm true Xmsn Xmsub Xmab Xmcol Xmdd Xmk0 Xmk1 Xmk2 Xmk3 Xmk5 "LookupError.__new__"))(Xmbm0 : Xmbm = [.type "LookupError", .type "Exception", .type "BaseException", .type "object"])
    (Xmal : PySem.W.alongIn K "__init__" [.type "LookupError", .type "Exception", .type "BaseException", .type "object"] = some (some (.builtin "LookupError.__init__")))
    {fXm : Addr} (Xmsa : PySem.W.findIn K (.ref cMissing) "__setattr__" = some (some (.builtin "object.__setattr__")))(XmnoF : PySem.W.findIn K (.ref cMissing) "name" = some none)(XmiC : PySem.W.findIn K (.ref cMissing) "__init__" = some (some (.ref fXm)))(XmtC : PySem.W.typeIn K (.ref fXm) = some (.type "function"))(XmkC : PySem.W.keepIn K (.ref cMissing) = true)(XmexC : PySem.W.subIn K (.ref cMissing) (.type "BaseException") = some true)(Xmop : PySem.W.nsIn K cStatics "thirdparty.any" = some none)(Xmhd : PySem.W.hasDictIn K cMissing = true)(Xmga : PySem.W.findIn K (.ref cMissing) "__getattribute__" = some (some (.builtin "BaseException.__getattribute__")))(Xmgg : PySem.W.findIn K (.ref cMissing) "__getattr__" = some none)
    {Xmoc XmkV Xmdoc Xmpm Xmct : Value} {Xmod_ Xman : Option Addr} {Xmcda Xmcc : Addr} {Xmosl : Array (Option Value)} {Xmp1 Xmp2 Xmr0 Xmr1 Xmr2 Xmr3 Xmr4 Xmr5 Xmq1 Xmq2 Xmq3 Xmq4 Xmpa Xmpf Xmpv : Pos} {Xma : Str} {Xmj1 : Nat} (Xmfn : K.lookup fXm = some ⟨Xmoc, Xmod_, .func (PySem.W.ksFn "__init__" "Missing.__init__" (supA "name" Xmp1 Xmp2) (supB "name" [.Constant (.str Xma) Xmj1 Xmpa, .FormattedValue (.Name "name" Xmpf) (-1) none Xmpv] Xmr0 Xmr1 Xmr2 Xmr3 Xmr4 Xmr5 Xmq1 Xmq2 Xmq3 Xmq4) (supS "name") .none XmkV Xmdoc Xmpm Xman (.ref Xmcda) Xmct Xmcc), Xmosl⟩)(Xmcd : PySem.W.codeIn K (.ref Xmcda) "Missing.__init__" = true)(Xmli : (Xmr2.endLine == Xmr4.line) = true)(XmlA : Xma.length ≤ 1000)
    {Xmccl : Value} {Xmcdd : Option Addr} {Xmvs : Array Value} {Xmccs : Array (Option Value)} {Xmfile : Str} {Xmtf : Tok} (Xmlc : K.lookup Xmcda = some ⟨Xmccl, Xmcdd, .fields Xmvs, Xmccs⟩)(Xmv2 : Xmvs[2]? = some (.str Xmfile Xmtf))(Xmfi : ((l.prog.main.file : Str) == Xmfile) = true)
    {Xmcl : Value} {Xmcld : Option Addr} {Xmcsl : Array (Option Value)} (Xmce : K.lookup Xmcc = some ⟨Xmcl, Xmcld, .cell (some (.ref cMissing)), Xmcsl⟩)(Xmtop : (l.prog.main.scope.names.lookup ("super" : Str)).isSome = false)
    {cBroken : Addr} (aBroken : PySem.W.nsIn K mainGlobals "Broken" = some (some (.ref cBroken)))(isBroken : PySem.W.isClsIn K cBroken = true)(tyBroken : PySem.W.typeIn K (.ref cBroken) = some (.type "type"))(suBroken : PySem.W.subIn K (.ref cBroken) (.ref cBroken) = some true)(sBBroken : PySem.W.subIn K (.ref cBroken) (.type "ArithmeticError") = some true)
    {Xbnm Xbq : Str} {XbN : Addr} {Xbbs Xbbm : List Value} {Xbsn : List Str} {Xbsub : List Value} {Xbab : Bool} {Xbcol : Option Bool} {Xbdd : Option Addr} {Xbk0 Xbk1 Xbk2 Xbk3 Xbk5 : Option Value} (Xbcls : K.lookup cBroken = some (excClassObj Xbnm Xbq cBroken XbN Xbbs Xbbm true Xbsn Xbsub Xbab Xbcol Xbdd Xbk0 Xbk1 Xbk2 Xbk3 Xbk5 "ArithmeticError.__new__"))(Xbbm0 : Xbbm = [.type "ArithmeticError", .type "Exception", .type "BaseException", .type "object"])
    (Xbal : PySem.W.alongIn K "__init__" [.type "ArithmeticError", .type "Exception", .type "BaseException", .type "object"] = some (some (.builtin "ArithmeticError.__init__")))
    {fXb : Addr} (Xbsa : PySem.W.findIn K (.ref cBroken) "__setattr__" = some (some (.builtin "object.__setattr__")))(XbnoF : PySem.W.findIn K (.ref cBroken) "number" = some none)(XbiC : PySem.W.findIn K (.ref cBroken) "__init__" = some (some (.ref fXb)))(XbtC : PySem.W.typeIn K (.ref fXb) = some (.type "function"))(XbkC : PySem.W.keepIn K (.ref cBroken) = true)(XbexC : PySem.W.subIn K (.ref cBroken) (.type "BaseException") = some true)(Xbop : PySem.W.nsIn K cStatics "thirdparty.any" = some none)(Xbhd : PySem.W.hasDictIn K cBroken = true)(Xbga : PySem.W.findIn K (.ref cBroken) "__getattribute__" = some (some (.builtin "BaseException.__getattribute__")))(Xbgg : PySem.W.findIn K (.ref cBroken) "__getattr__" = some none)
    {Xboc XbkV Xbdoc Xbpm Xbct : Value} {Xbod_ Xban : Option Addr} {Xbcda Xbcc : Addr} {Xbosl : Array (Option Value)} {Xbp1 Xbp2 Xbr0 Xbr1 Xbr2 Xbr3 Xbr4 Xbr5 Xbq1 Xbq2 Xbq3 Xbq4 Xbpa Xbpf Xbpv : Pos} {Xba : Str} {Xbj1 : Nat} (Xbfn : K.lookup fXb = some ⟨Xboc, Xbod_, .func (PySem.W.ksFn "__init__" "Broken.__init__" (supA "number" Xbp1 Xbp2) (supB "number" [.Constant (.str Xba) Xbj1 Xbpa, .FormattedValue (.Name "number" Xbpf) (-1) none Xbpv] Xbr0 Xbr1 Xbr2 Xbr3 Xbr4 Xbr5 Xbq1 Xbq2 Xbq3 Xbq4) (supS "number") .none XbkV Xbdoc Xbpm Xban (.ref Xbcda) Xbct Xbcc), Xbosl⟩)(Xbcd : PySem.W.codeIn K (.ref Xbcda) "Broken.__init__" = true)(Xbli : (Xbr2.endLine == Xbr4.line) = true)(XblA : Xba.length ≤ 1000)
    {Xbccl : Value} {Xbcdd : Option Addr} {Xbvs : Array Value} {Xbccs : Array (Option Value)} {Xbfile : Str} {Xbtf : Tok} (Xblc : K.lookup Xbcda = some ⟨Xbccl, Xbcdd, .fields Xbvs, Xbccs⟩)(Xbv2 : Xbvs[2]? = some (.str Xbfile Xbtf))(Xbfi : ((l.prog.main.file : Str) == Xbfile) = true)
    {Xbcl : Value} {Xbcld : Option Addr} {Xbcsl : Array (Option Value)} (Xbce : K.lookup Xbcc = some ⟨Xbcl, Xbcld, .cell (some (.ref cBroken)), Xbcsl⟩)(Xbtop : (l.prog.main.scope.names.lookup ("super" : Str)).isSome = false)
    {cSpent : Addr} (aSpent : PySem.W.nsIn K mainGlobals "Spent" = some (some (.ref cSpent)))(isSpent : PySem.W.isClsIn K cSpent = true)(tySpent : PySem.W.typeIn K (.ref cSpent) = some (.type "type"))(suSpent : PySem.W.subIn K (.ref cSpent) (.ref cSpent) = some true)(sBSpent : PySem.W.subIn K (.ref cSpent) (.type "RuntimeError") = some true)
    {Xsnm Xsq : Str} {XsN : Addr} {Xsbs Xsbm : List Value} {Xssn : List Str} {Xssub : List Value} {Xsab : Bool} {Xscol : Option Bool} {Xsdd : Option Addr} {Xsk0 Xsk1 Xsk2 Xsk3 Xsk5 : Option Value} (Xscls : K.lookup cSpent = some (excClassObj Xsnm Xsq cSpent XsN Xsbs Xsbm true Xssn Xssub Xsab Xscol Xsdd Xsk0 Xsk1 Xsk2 Xsk3 Xsk5 "RuntimeError.__new__"))(Xsbm0 : Xsbm = [.type "RuntimeError", .type "Exception", .type "BaseException", .type "object"])
    (Xsal : PySem.W.alongIn K "__init__" [.type "RuntimeError", .type "Exception", .type "BaseException", .type "object"] = some (some (.builtin "RuntimeError.__init__")))
    {fXs : Addr} (Xssa : PySem.W.findIn K (.ref cSpent) "__setattr__" = some (some (.builtin "object.__setattr__")))(XsnoF : PySem.W.findIn K (.ref cSpent) "steps" = some none)(XsiC : PySem.W.findIn K (.ref cSpent) "__init__" = some (some (.ref fXs)))(XstC : PySem.W.typeIn K (.ref fXs) = some (.type "function"))(XskC : PySem.W.keepIn K (.ref cSpent) = true)(XsexC : PySem.W.subIn K (.ref cSpent) (.type "BaseException") = some true)(Xsop : PySem.W.nsIn K cStatics "thirdparty.any" = some none)(Xshd : PySem.W.hasDictIn K cSpent = true)(Xsga : PySem.W.findIn K (.ref cSpent) "__getattribute__" = some (some (.builtin "BaseException.__getattribute__")))(Xsgg : PySem.W.findIn K (.ref cSpent) "__getattr__" = some none)
    {Xsoc XskV Xsdoc Xspm Xsct : Value} {Xsod_ Xsan : Option Addr} {Xscda Xscc : Addr} {Xsosl : Array (Option Value)} {Xsp1 Xsp2 Xsr0 Xsr1 Xsr2 Xsr3 Xsr4 Xsr5 Xsq1 Xsq2 Xsq3 Xsq4 Xspa Xspf Xspv Xspb : Pos} {Xsa Xsb : Str} {Xsj1 Xsj2 : Nat} (Xsfn : K.lookup fXs = some ⟨Xsoc, Xsod_, .func (PySem.W.ksFn "__init__" "Spent.__init__" (supA "steps" Xsp1 Xsp2) (supB "steps" [.Constant (.str Xsa) Xsj1 Xspa, .FormattedValue (.Name "steps" Xspf) (-1) none Xspv, .Constant (.str Xsb) Xsj2 Xspb] Xsr0 Xsr1 Xsr2 Xsr3 Xsr4 Xsr5 Xsq1 Xsq2 Xsq3 Xsq4) (supS "steps") .none XskV Xsdoc Xspm Xsan (.ref Xscda) Xsct Xscc), Xsosl⟩)(Xscd : PySem.W.codeIn K (.ref Xscda) "Spent.__init__" = true)(Xsli : (Xsr2.endLine == Xsr4.line) = true)(XslA : Xsa.length ≤ 1000)(XslB : Xsb.length ≤ 1000)
    {Xsccl : Value} {Xscdd : Option Addr} {Xsvs : Array Value} {Xsccs : Array (Option Value)} {Xsfile : Str} {Xstf : Tok} (Xslc : K.lookup Xscda = some ⟨Xsccl, Xscdd, .fields Xsvs, Xsccs⟩)(Xsv2 : Xsvs[2]? = some (.str Xsfile Xstf))(Xsfi : ((l.prog.main.file : Str) == Xsfile) = true)
    {Xscl : Value} {Xscld : Option Addr} {Xscsl : Array (Option Value)} (Xsce : K.lookup Xscc = some ⟨Xscl, Xscld, .cell (some (.ref cSpent)), Xscsl⟩)(Xstop : (l.prog.main.scope.names.lookup ("super" : Str)).isSome = false)
    : ∃ fd : FuncData, (∀ (s : Shared) (v : Value), BindsTo s fd ⟨[v], []⟩ [("_law_script", v)]) ∧ ∀ base : Heap, K.In base → base.Ns mainGlobals mg → FnG l.prog w K mg base 30 fa fd ["_law_script"] (spLaw K) := by
  have e := hfa.symm.trans (PySem.W.mg_of X G a_law)
  cases e
  have F_check_work := fun_mk (st := sChkWork) l_check_work c_check_work k_check_work
  have b_check_work := F_check_work.binds (ps := ["thing"]) fun _ _ _ _ _ _ us hl => match us, hl with | [_], _ => rfl
  have m_check_work := PySem.W.mg_of X G a_check_work
  have F_is_work := fun_mk (st := sIsWork) l_is_work c_is_work k_is_work
  have b_is_work := F_is_work.binds (ps := ["thing"]) fun _ _ _ _ _ _ us hl => match us, hl with | [_], _ => rfl
  have m_is_work := PySem.W.mg_of X G a_is_work
  have F_is_tuple_of := fun_mk (st := sTupOf) l_is_tuple_of c_is_tuple_of k_is_tuple_of
  have b_is_tuple_of := F_is_tuple_of.binds (ps := ["thing", "many"]) fun _ _ _ _ _ _ us hl => match us, hl with | [_, _], _ => rfl
  have m_is_tuple_of := PySem.W.mg_of X G a_is_tuple_of
  have F_is_whole := fun_mk (st := sWhole) l_is_whole c_is_whole k_is_whole
  have b_is_whole := F_is_whole.binds (ps := ["thing"]) fun _ _ _ _ _ _ us hl => match us, hl with | [_], _ => rfl
  have m_is_whole := PySem.W.mg_of X G a_is_whole
  have F_is_whole_within := fun_mk (st := sWithin) l_is_whole_within c_is_whole_within k_is_whole_within
  have b_is_whole_within := F_is_whole_within.binds (ps := ["thing", "most"]) fun _ _ _ _ _ _ us hl => match us, hl with | [_, _], _ => rfl
  have m_is_whole_within := PySem.W.mg_of X G a_is_whole_within
  have F_is_name := fun_mk (st := sIsName) l_is_name c_is_name k_is_name
  have b_is_name := F_is_name.binds (ps := ["thing"]) fun _ _ _ _ _ _ us hl => match us, hl with | [_], _ => rfl
  have m_is_name := PySem.W.mg_of X G a_is_name
  have F_are_names := fun_mk (st := sAreNames) l_are_names c_are_names k_are_names
  have b_are_names := F_are_names.binds (ps := ["thing"]) fun _ _ _ _ _ _ us hl => match us, hl with | [_], _ => rfl
  have m_are_names := PySem.W.mg_of X G a_are_names
  have m_is_expression := PySem.W.mg_of X G a_is_expression
  have F_is_leaf := fun_mk (st := sLeaf) l_is_leaf c_is_leaf k_is_leaf
  have b_is_leaf := F_is_leaf.binds (ps := ["pair"]) fun _ _ _ _ _ _ us hl => match us, hl with | [_], _ => rfl
  have m_is_leaf := PySem.W.mg_of X G a_is_leaf
  have F_are_expressions := fun_mk (st := sAreEx) l_are_expressions c_are_expressions k_are_expressions
  have b_are_expressions := F_are_expressions.binds (ps := ["thing"]) fun _ _ _ _ _ _ us hl => match us, hl with | [_], _ => rfl
  have m_are_expressions := PySem.W.mg_of X G a_are_expressions
  have F_rows_left := fun_mk (st := sRowsL) l_rows_left c_rows_left k_rows_left
  have b_rows_left := F_rows_left.binds (ps := ["thing", "ifs", "left"]) fun _ _ _ _ _ _ us hl => match us, hl with | [_, _, _], _ => rfl
  have m_rows_left := PySem.W.mg_of X G a_rows_left
  have F_row_left := fun_mk (st := sRowL) l_row_left c_row_left k_row_left
  have b_row_left := F_row_left.binds (ps := ["thing", "ifs", "left"]) fun _ _ _ _ _ _ us hl => match us, hl with | [_, _, _], _ => rfl
  have m_row_left := PySem.W.mg_of X G a_row_left
  have F_branches_left := fun_mk (st := sBranL) l_branches_left c_branches_left k_branches_left
  have b_branches_left := F_branches_left.binds (ps := ["row", "ifs", "left"]) fun _ _ _ _ _ _ us hl => match us, hl with | [_, _, _], _ => rfl
  have m_branches_left := PySem.W.mg_of X G a_branches_left
  have F_is_if_head := fun_mk (st := sIfHead) l_is_if_head c_is_if_head k_is_if_head
  have b_is_if_head := F_is_if_head.binds (ps := ["thing"]) fun _ _ _ _ _ _ us hl => match us, hl with | [_], _ => rfl
  have m_is_if_head := PySem.W.mg_of X G a_is_if_head
  have F_is_plain_row := fun_mk (st := sPlain) l_is_plain_row c_is_plain_row k_is_plain_row
  have b_is_plain_row := F_is_plain_row.binds (ps := ["thing"]) fun _ _ _ _ _ _ us hl => match us, hl with | [_], _ => rfl
  have m_is_plain_row := PySem.W.mg_of X G a_is_plain_row
  have F_check_works := fun_mk (st := sChkWorks) l_check_works c_check_works k_check_works
  have b_check_works := F_check_works.binds (ps := ["thing"]) fun _ _ _ _ _ _ us hl => match us, hl with | [_], _ => rfl
  have m_check_works := PySem.W.mg_of X G a_check_works
  have F_check_starts := fun_mk (st := sChkStarts) l_check_starts c_check_starts k_check_starts
  have b_check_starts := F_check_starts.binds (ps := ["works"]) fun _ _ _ _ _ _ us hl => match us, hl with | [_], _ => rfl
  have m_check_starts := PySem.W.mg_of X G a_check_starts
  have F_handed_counts := fun_mk (st := sHanded) l_handed_counts c_handed_counts k_handed_counts
  have b_handed_counts := F_handed_counts.binds (ps := ["works"]) fun _ _ _ _ _ _ us hl => match us, hl with | [_], _ => rfl
  have m_handed_counts := PySem.W.mg_of X G a_handed_counts
  have F_check_start := fun_mk (st := sChkStart) l_check_start c_check_start k_check_start
  have b_check_start := F_check_start.binds (ps := ["start", "handed"]) fun _ _ _ _ _ _ us hl => match us, hl with | [_, _], _ => rfl
  have m_check_start := PySem.W.mg_of X G a_check_start
  have F_starts_in := fun_mk (st := sStartsIn) l_starts_in c_starts_in k_starts_in
  have b_starts_in := F_starts_in.binds (ps := ["rows"]) fun _ _ _ _ _ _ us hl => match us, hl with | [_], _ => rfl
  have m_starts_in := PySem.W.mg_of X G a_starts_in
  have F_Book___init__ := fun_mk (st := sBookInit) l_Book___init__ c_Book___init__ k_Book___init__
  have b_Book___init__ := F_Book___init__.binds (ps := ["self", "works"]) fun _ _ _ _ _ _ us hl => match us, hl with | [_, _], _ => rfl
  have M_Book___init__ : Meth K C_Book "__init__" f_Book___init__ := ⟨a_Book___init__, i_Book___init__, k_Book___init__⟩
  have F_Book_tree := fun_mk (st := sBookTree) l_Book_tree c_Book_tree k_Book_tree
  have b_Book_tree := F_Book_tree.binds (ps := ["self", "name"]) fun _ _ _ _ _ _ us hl => match us, hl with | [_, _], _ => rfl
  have M_Book_tree : Meth K C_Book "tree" f_Book_tree := ⟨a_Book_tree, i_Book_tree, k_Book_tree⟩
  have F_code_of := fun_mk (st := sCodeOf) l_code_of c_code_of k_code_of
  have b_code_of := F_code_of.binds (ps := ["work"]) fun _ _ _ _ _ _ us hl => match us, hl with | [_], _ => rfl
  have m_code_of := PySem.W.mg_of X G a_code_of
  have F_rows_code := fun_mk (st := sRowsCode) l_rows_code c_rows_code k_rows_code
  have b_rows_code := F_rows_code.binds (ps := ["rows", "place"]) fun _ _ _ _ _ _ us hl => match us, hl with | [_, _], _ => rfl
  have m_rows_code := PySem.W.mg_of X G a_rows_code
  have F_if_code := fun_mk (st := sIfCode) l_if_code c_if_code k_if_code
  have b_if_code := F_if_code.binds (ps := ["row", "place"]) fun _ _ _ _ _ _ us hl => match us, hl with | [_, _], _ => rfl
  have m_if_code := PySem.W.mg_of X G a_if_code
  have F_is_future := fun_mk (st := sIsFut) l_is_future c_is_future k_is_future
  have b_is_future := F_is_future.binds (ps := ["worth"]) fun _ _ _ _ _ _ us hl => match us, hl with | [_], _ => rfl
  have m_is_future := PySem.W.mg_of X G a_is_future
  have F_worth_of := fun_mk (st := sWorthOf) l_worth_of c_worth_of k_worth_of
  have b_worth_of := F_worth_of.binds (ps := ["name", "worths"]) fun _ _ _ _ _ _ us hl => match us, hl with | [_, _], _ => rfl
  have m_worth_of := PySem.W.mg_of X G a_worth_of
  have F_path_of := fun_mk (st := sPathOf) l_path_of c_path_of k_path_of
  have b_path_of := F_path_of.binds (ps := ["name", "worths"]) fun _ _ _ _ _ _ us hl => match us, hl with | [_, _], _ => rfl
  have m_path_of := PySem.W.mg_of X G a_path_of
  have F_reckon := fun_mk (st := sReckon) l_reckon c_reckon k_reckon
  have b_reckon := F_reckon.binds (ps := ["tree", "worths"]) fun _ _ _ _ _ _ us hl => match us, hl with | [_, _], _ => rfl
  have m_reckon := PySem.W.mg_of X G a_reckon
  have F_reckon_number := fun_mk (st := sReckonN) l_reckon_number c_reckon_number k_reckon_number
  have b_reckon_number := F_reckon_number.binds (ps := ["tree", "worths"]) fun _ _ _ _ _ _ us hl => match us, hl with | [_, _], _ => rfl
  have m_reckon_number := PySem.W.mg_of X G a_reckon_number
  have F_as_number := fun_mk (st := sAsNum) l_as_number c_as_number k_as_number
  have b_as_number := F_as_number.binds (ps := ["worth"]) fun _ _ _ _ _ _ us hl => match us, hl with | [_], _ => rfl
  have m_as_number := PySem.W.mg_of X G a_as_number
  have F_operate := fun_mk (st := sOperate) l_operate c_operate k_operate
  have b_operate := F_operate.binds (ps := ["sign", "left", "right"]) fun _ _ _ _ _ _ us hl => match us, hl with | [_, _, _], _ => rfl
  have m_operate := PySem.W.mg_of X G a_operate
  have F_combine := fun_mk (st := sCombine) l_combine c_combine k_combine
  have b_combine := F_combine.binds (ps := ["sign", "left", "right"]) fun _ _ _ _ _ _ us hl => match us, hl with | [_, _, _], _ => rfl
  have m_combine := PySem.W.mg_of X G a_combine
  have F_Frame___init__ := fun_mk (st := sFrameInit) l_Frame___init__ c_Frame___init__ k_Frame___init__
  have M_Frame___init__ : Meth K C_Frame "__init__" f_Frame___init__ := ⟨a_Frame___init__, i_Frame___init__, k_Frame___init__⟩
  have F_Task___init__ := fun_mk (st := sTaskInit) l_Task___init__ c_Task___init__ k_Task___init__
  have b_Task___init__ := F_Task___init__.binds (ps := ["self", "path", "frames"]) fun _ _ _ _ _ _ us hl => match us, hl with | [_, _, _], _ => rfl
  have M_Task___init__ : Meth K C_Task "__init__" f_Task___init__ := ⟨a_Task___init__, i_Task___init__, k_Task___init__⟩
  have F_frame_of_work := fun_mk (st := sFrameOf) l_frame_of_work c_frame_of_work k_frame_of_work
  have m_frame_of_work := PySem.W.mg_of X G a_frame_of_work
  have F_room_of := fun_mk (st := sRoomOf) l_room_of c_room_of k_room_of
  have b_room_of := F_room_of.binds (ps := ["task"]) fun _ _ _ _ _ _ us hl => match us, hl with | [_], _ => rfl
  have m_room_of := PySem.W.mg_of X G a_room_of
  have F_next_row := fun_mk (st := sNextRow) l_next_row c_next_row k_next_row
  have b_next_row := F_next_row.binds (ps := ["task"]) fun _ _ _ _ _ _ us hl => match us, hl with | [_], _ => rfl
  have m_next_row := PySem.W.mg_of X G a_next_row
  have F_waited_path := fun_mk (st := sWaited) l_waited_path c_waited_path k_waited_path
  have b_waited_path := F_waited_path.binds (ps := ["task"]) fun _ _ _ _ _ _ us hl => match us, hl with | [_], _ => rfl
  have m_waited_path := PySem.W.mg_of X G a_waited_path
  have F_do_step := fun_mk (st := sStep) l_do_step c_do_step k_do_step
  have b_do_step := F_do_step.binds (ps := ["task", "book", "results"]) fun _ _ _ _ _ _ us hl => match us, hl with | [_, _, _], _ => rfl
  have m_do_step := PySem.W.mg_of X G a_do_step
  have F_try_row := fun_mk (st := sTryRow) l_try_row c_try_row k_try_row
  have b_try_row := F_try_row.binds (ps := ["task", "book", "results"]) fun _ _ _ _ _ _ us hl => match us, hl with | [_, _, _], _ => rfl
  have m_try_row := PySem.W.mg_of X G a_try_row
  have F_do_row := fun_mk (st := sDoRow) l_do_row c_do_row k_do_row
  have b_do_row := F_do_row.binds (ps := ["task", "book", "results"]) fun _ _ _ _ _ _ us hl => match us, hl with | [_, _, _], _ => rfl
  have m_do_row := PySem.W.mg_of X G a_do_row
  have F_start_task := fun_mk (st := sStart) l_start_task c_start_task k_start_task
  have b_start_task := F_start_task.binds (ps := ["task", "row", "book"]) fun _ _ _ _ _ _ us hl => match us, hl with | [_, _, _], _ => rfl
  have m_start_task := PySem.W.mg_of X G a_start_task
  have F_call_work := fun_mk (st := sCallW) l_call_work c_call_work k_call_work
  have b_call_work := F_call_work.binds (ps := ["task", "row", "book"]) fun _ _ _ _ _ _ us hl => match us, hl with | [_, _, _], _ => rfl
  have m_call_work := PySem.W.mg_of X G a_call_work
  have F_begun_frame := fun_mk (st := sBegun) l_begun_frame c_begun_frame k_begun_frame
  have m_begun_frame := PySem.W.mg_of X G a_begun_frame
  have F_handed_on := fun_mk (st := sHandedOn) l_handed_on c_handed_on k_handed_on
  have b_handed_on := F_handed_on.binds (ps := ["frame", "row"]) fun _ _ _ _ _ _ us hl => match us, hl with | [_, _], _ => rfl
  have m_handed_on := PySem.W.mg_of X G a_handed_on
  have F_give := fun_mk (st := sGive) l_give c_give k_give
  have b_give := F_give.binds (ps := ["task", "worth"]) fun _ _ _ _ _ _ us hl => match us, hl with | [_, _], _ => rfl
  have m_give := PySem.W.mg_of X G a_give
  have F_wait_worth := fun_mk (st := sWaitW) l_wait_worth c_wait_worth k_wait_worth
  have b_wait_worth := F_wait_worth.binds (ps := ["row", "frame", "results"]) fun _ _ _ _ _ _ us hl => match us, hl with | [_, _, _], _ => rfl
  have m_wait_worth := PySem.W.mg_of X G a_wait_worth
  have F_name_and_move := fun_mk (st := sNameMove) l_name_and_move c_name_and_move k_name_and_move
  have b_name_and_move := F_name_and_move.binds (ps := ["frame", "name", "worth"]) fun _ _ _ _ _ _ us hl => match us, hl with | [_, _, _], _ => rfl
  have m_name_and_move := PySem.W.mg_of X G a_name_and_move
  have F_move := fun_mk (st := sMove) l_move c_move k_move
  have b_move := F_move.binds (ps := ["frame", "place"]) fun _ _ _ _ _ _ us hl => match us, hl with | [_, _], _ => rfl
  have m_move := PySem.W.mg_of X G a_move
  have F_serial := fun_mk (st := sSerial) l_serial c_serial k_serial
  have m_serial := PySem.W.mg_of X G a_serial
  have F_Run___init__ := fun_mk (st := sRunInit) l_Run___init__ c_Run___init__ k_Run___init__
  have b_Run___init__ := F_Run___init__.binds (ps := ["self", "results", "count", "most"]) fun _ _ _ _ _ _ us hl => match us, hl with | [_, _, _, _], _ => rfl
  have M_Run___init__ : Meth K C_Run "__init__" f_Run___init__ := ⟨a_Run___init__, i_Run___init__, k_Run___init__⟩
  have F_Run_ends := fun_mk (st := sEnds) l_Run_ends c_Run_ends k_Run_ends
  have b_Run_ends := F_Run_ends.binds (ps := ["self"]) fun _ _ _ _ _ _ us hl => match us, hl with | [_], _ => rfl
  have M_Run_ends : Meth K C_Run "ends" f_Run_ends := ⟨a_Run_ends, i_Run_ends, k_Run_ends⟩
  have F_first_task := fun_mk (st := sFirst) l_first_task c_first_task k_first_task
  have b_first_task := F_first_task.binds (ps := ["book", "name", "args"]) fun _ _ _ _ _ _ us hl => match us, hl with | [_, _, _], _ => rfl
  have m_first_task := PySem.W.mg_of X G a_first_task
  have F_are_numbers := fun_mk (st := sAreNums) l_are_numbers c_are_numbers k_are_numbers
  have b_are_numbers := F_are_numbers.binds (ps := ["thing", "many"]) fun _ _ _ _ _ _ us hl => match us, hl with | [_, _], _ => rfl
  have m_are_numbers := PySem.W.mg_of X G a_are_numbers
  have F_walk := fun_mk (st := sWalk) l_walk c_walk k_walk
  have b_walk := F_walk.binds (ps := ["main", "book", "budget"]) fun _ _ _ _ _ _ us hl => match us, hl with | [_, _, _], _ => rfl
  have m_walk := PySem.W.mg_of X G a_walk
  have F_most_taken := fun_mk (st := sMostT) l_most_taken c_most_taken k_most_taken
  have b_most_taken := F_most_taken.binds (ps := ["room", "nodes"]) fun _ _ _ _ _ _ us hl => match us, hl with | [_, _], _ => rfl
  have m_most_taken := PySem.W.mg_of X G a_most_taken
  have F_Lbag := fun_mk (st := sBag) l_Lbag c_Lbag k_Lbag
  have b_Lbag := F_Lbag.binds (ps := ["_law_script", "_law_k"]) fun _ _ _ _ _ _ us hl => match us, hl with | [_, _], _ => rfl
  have m_Lbag := PySem.W.mg_of X G a_Lbag
  have F_Ltake := fun_mk (st := sTake) l_Ltake c_Ltake k_Ltake
  have b_Ltake := F_Ltake.binds (ps := ["_law_bag_here", "_law_many"]) fun _ _ _ _ _ _ us hl => match us, hl with | [_, _], _ => rfl
  have m_Ltake := PySem.W.mg_of X G a_Ltake
  have F_Lkept := fun_mk (st := sKept) l_Lkept c_Lkept k_Lkept
  have b_Lkept := F_Lkept.binds (ps := []) fun _ _ _ _ _ _ us hl => match us, hl with | [], _ => rfl
  have m_Lkept := PySem.W.mg_of X G a_Lkept
  have F_Lnames := fun_mk (st := sNames) l_Lnames c_Lnames k_Lnames
  have b_Lnames := F_Lnames.binds (ps := ["_law_bag_here", "_law_many"]) fun _ _ _ _ _ _ us hl => match us, hl with | [_, _], _ => rfl
  have m_Lnames := PySem.W.mg_of X G a_Lnames
  have F_Lnumber := fun_mk (st := sNumber) l_Lnumber c_Lnumber k_Lnumber
  have b_Lnumber := F_Lnumber.binds (ps := ["_law_bag_here"]) fun _ _ _ _ _ _ us hl => match us, hl with | [_], _ => rfl
  have m_Lnumber := PySem.W.mg_of X G a_Lnumber
  have F_Ltree := fun_mk (st := sTree) l_Ltree c_Ltree k_Ltree
  have b_Ltree := F_Ltree.binds (ps := ["_law_bag_here", "_law_names_here", "_law_deep"]) fun _ _ _ _ _ _ us hl => match us, hl with | [_, _, _], _ => rfl
  have m_Ltree := PySem.W.mg_of X G a_Ltree
  have F_Largs := fun_mk (st := sArgs) l_Largs c_Largs k_Largs
  have b_Largs := F_Largs.binds (ps := ["_law_bag_here", "_law_many"]) fun _ _ _ _ _ _ us hl => match us, hl with | [_, _], _ => rfl
  have m_Largs := PySem.W.mg_of X G a_Largs
  have F_Lvalue := fun_mk (st := sValue) l_Lvalue c_Lvalue k_Lvalue
  have b_Lvalue := F_Lvalue.binds (ps := ["_law_tree_here", "_law_held"]) fun _ _ _ _ _ _ us hl => match us, hl with | [_, _], _ => rfl
  have m_Lvalue := PySem.W.mg_of X G a_Lvalue
  have F_Ltold := fun_mk (st := sTold) l_Ltold c_Ltold k_Ltold
  have b_Ltold := F_Ltold.binds (ps := ["_law_works", "_law_args_here"]) fun _ _ _ _ _ _ us hl => match us, hl with | [_, _], _ => rfl
  have m_Ltold := PySem.W.mg_of X G a_Ltold
  have F_Lis_right := fun_mk (st := sRight) l_Lis_right c_Lis_right k_Lis_right
  have b_Lis_right := F_Lis_right.binds (ps := ["_law_row", "_law_names_here", "_law_args_here", "_law_room"]) fun _ _ _ _ _ _ us hl => match us, hl with | [_, _, _, _], _ => rfl
  have m_Lis_right := PySem.W.mg_of X G a_Lis_right
  have F_Ledge := fun_mk (st := sEdge) l_Ledge c_Ledge k_Ledge
  have b_Ledge := F_Ledge.binds (ps := ["_law_bag_here"]) fun _ _ _ _ _ _ us hl => match us, hl with | [_], _ => rfl
  have m_Ledge := PySem.W.mg_of X G a_Ledge
  have F_law := fun_mk (st := sLaw) l_law c_law k_law
  have m_law := PySem.W.mg_of X G a_law
  have mC_Book := PySem.W.mg_of X G aC_Book
  have mC_Frame := PySem.W.mg_of X G aC_Frame
  have mC_Task := PySem.W.mg_of X G aC_Task
  have mC_Run := PySem.W.mg_of X G aC_Run
  have T : Bi mg := ⟨PySem.W.mg_none_of X G z_len, PySem.W.mg_none_of X G z_abs, PySem.W.mg_none_of X G z_int, PySem.W.mg_none_of X G z_str, PySem.W.mg_none_of X G z_range, PySem.W.mg_none_of X G z_max, PySem.W.mg_none_of X G z_min, PySem.W.mg_none_of X G z_isinstance, PySem.W.mg_none_of X G z_all⟩
  have q_tuple := PySem.W.mg_none_of X G z_tuple
  have q_bool := PySem.W.mg_none_of X G z_bool
  have q_set := PySem.W.mg_none_of X G z_set
  have q_list := PySem.W.mg_none_of X G z_list
  have q_repr := PySem.W.mg_none_of X G z_repr
  have q_super := PySem.W.mg_none_of X G z_super
  have q_zip := PySem.W.mg_none_of X G z_zip
  have q_dict := PySem.W.mg_none_of X G z_dict
  have q_sum := PySem.W.mg_none_of X G z_sum
  have q_sorted := PySem.W.mg_none_of X G z_sorted
  have cl_Book : Cls K C_Book := ⟨pg_Book, hd_Book, po_Book, sa_Book⟩
  have cl_Frame : Cls K C_Frame := ⟨pg_Frame, hd_Frame, po_Frame, sa_Frame⟩
  have cl_Task : Cls K C_Task := ⟨pg_Task, hd_Task, po_Task, sa_Task⟩
  have cl_Run : Cls K C_Run := ⟨pg_Run, hd_Run, po_Run, sa_Run⟩
  refine ⟨PySem.W.fnOf "law" "law" (defArgs sLaw) (defBody sLaw) (defScope sLaw) .none kV_law dc_law pm_law an_law cd_law ct_law, fun s v => .of_eq rfl, fun base _ _ => ?_⟩
  have hW10 : iW.toArray.size ≤ sizeLine := by
    have := vW.length
    rw [List.size_toArray, ← this]
    decide
  have hS5 : iS.toArray.size ≤ sizeLine := by
    have := vS.length
    rw [List.size_toArray, ← this]
    decide
  have e30 : (1000000 : Int) ^ 5 - 1 = 999999999999999999999999999999 := by decide
  have GF : Gf K mg := ⟨⟨aW, PySem.W.mg_of X G gW, fun H => .inr ⟨_, iW.toArray, nW, lW, rfl, rfl, hW10, by rw [List.toList_toArray]; exact vW⟩⟩, ⟨aS, PySem.W.mg_of X G gS, fun H => .inr ⟨_, iS.toArray, nS, lS, rfl, rfl, hS5, by rw [List.toList_toArray]; exact vS⟩⟩, ⟨tLt, PySem.W.mg_of X G gLt⟩,
    ⟨_, PySem.W.mg_of X G g_MOST_WORKS⟩, ⟨_, PySem.W.mg_of X G g_MOST_ROWS⟩, ⟨_, PySem.W.mg_of X G g_MOST_NAMES⟩, ⟨_, PySem.W.mg_of X G g_MOST_EXPRESSIONS⟩, ⟨_, PySem.W.mg_of X G g_MOST_IFS⟩, ⟨_, PySem.W.mg_of X G g_MOST_LETTERS⟩, ⟨_, PySem.W.mg_of X G g_MOST_ROOM⟩, ⟨_, by rw [e30]; exact PySem.W.mg_of X G g_MOST_NUMBER⟩, ⟨_, PySem.W.mg_of X G g_NO_ROWS⟩⟩
  have BKT : BkT K mg C_Book := ⟨cl_Book, na_works_Book, mC_Book⟩
  have FE : FunD K "is_expression" "is_expression" (defArgs sIsEx) (defBody sIsEx) (defScope sIsEx) [.int 6] [] f_is_expression _ := ⟨⟨_, _, _, _, _, _, _, _, _, _, rfl, l_is_expression, c_is_expression, .inr ⟨by simp, TD, oTD, iTD, nTD, rfl, lTD, oTD0, vTD⟩, .inl rfl⟩, k_is_expression⟩
  obtain ⟨⟨dsE, vE, bE⟩, bE0⟩ := isEx_dflt FE
  -- the program's forms
  have TO : Fk l.prog w K mg base 1 "is_tuple_of" f_is_tuple_of _ ["thing", "many"] spTupOf := ⟨ok_tupOf F_is_tuple_of T q_tuple, m_is_tuple_of, k_is_tuple_of, b_is_tuple_of⟩
  have WH : Fk l.prog w K mg base 1 "is_whole" f_is_whole _ ["thing"] spWhole := ⟨ok_whole F_is_whole T q_bool, m_is_whole, k_is_whole, b_is_whole⟩
  have WI : Fk l.prog w K mg base 2 "is_whole_within" f_is_whole_within _ ["thing", "most"] spWithin := ⟨ok_within F_is_whole_within WH, m_is_whole_within, k_is_whole_within, b_is_whole_within⟩
  have IN : Fk l.prog w K mg base 1 "is_name" f_is_name _ ["thing"] spIsName := ⟨ok_isName F_is_name T GF, m_is_name, k_is_name, b_is_name⟩
  have LF : Fk l.prog w K mg base 3 "is_leaf" f_is_leaf _ ["pair"] spLeaf := ⟨ok_leaf F_is_leaf WI IN GF, m_is_leaf, k_is_leaf, b_is_leaf⟩
  have mE := PySem.W.mg_of X G a_is_expression
  have IE : Fk l.prog w K mg base 9 "is_expression" f_is_expression _ ["thing", "deepest"] (spIsEx 6) := ⟨isExs FE mE bE0 TO LF GF 6, mE, k_is_expression, bE0⟩
  have AN : Fk l.prog w K mg base 2 "are_names" f_are_names _ ["thing"] spAreNames := ⟨ok_areNames F_are_names IN T GF q_tuple q_set, m_are_names, k_are_names, b_are_names⟩
  have AE : Fk l.prog w K mg base 10 "are_expressions" f_are_expressions _ ["thing"] spAreEx := ⟨ok_areEx F_are_expressions IE vE bE T GF q_tuple, m_are_expressions, k_are_expressions, b_are_expressions⟩
  have IH : ∀ n, Fk l.prog w K mg base 10 "is_if_head" f_is_if_head _ ["thing"] (spIfHead n) := fun n => ⟨ok_ifHead F_is_if_head TO IE vE bE, m_is_if_head, k_is_if_head, b_is_if_head⟩
  have IP : ∀ n, Fk l.prog w K mg base 11 "is_plain_row" f_is_plain_row _ ["thing"] (spPlain n) := fun n => ⟨ok_plain F_is_plain_row TO IE vE bE IN AE, m_is_plain_row, k_is_plain_row, b_is_plain_row⟩
  have RLs : ∀ n, FnOk l.prog w K mg base CX0 (13 + 3 * n) f_rows_left (PySem.W.fnOf "rows_left" "rows_left" (defArgs sRowsL) (defBody sRowsL) (defScope sRowsL) .none kV_rows_left dc_rows_left pm_rows_left an_rows_left cd_rows_left ct_rows_left) ["thing", "ifs", "left"] (spRowsL n) := by
    intro n
    induction n with
    | zero => exact ok_rowsL (k := 12) F_rows_left ⟨ok_rowL (k := 11) (by decide) F_row_left (IH 0) (IP 0) (fun h => absurd h (by decide)) m_branches_left k_branches_left b_branches_left GF, m_row_left, k_row_left, b_row_left⟩ T GF q_tuple
    | succ n ih =>
      have br := ok_branL (k := 13 + 3 * n) F_branches_left ⟨ih, m_rows_left, k_rows_left, b_rows_left⟩ GF
      have rl := ok_rowL (n := n + 1) (k := 13 + 3 * n + 1) (by omega) F_row_left (IH (n + 1)) (IP (n + 1)) (fun _ => ⟨br, m_branches_left, k_branches_left, b_branches_left⟩) m_branches_left k_branches_left b_branches_left GF
      have rs := ok_rowsL F_rows_left ⟨rl, m_row_left, k_row_left, b_row_left⟩ T GF q_tuple
      rw [show 13 + 3 * (n + 1) = 13 + 3 * n + 1 + 1 + 1 by omega]
      exact rs
  have IW : Fk l.prog w K mg base 23 "is_work" f_is_work _ ["thing"] spIsWork := ⟨ok_isWork F_is_work TO IN AN WI ⟨RLs 3, m_rows_left, k_rows_left, b_rows_left⟩ GF, m_is_work, k_is_work, b_is_work⟩
  have CW : Fk l.prog w K mg base 24 "check_work" f_check_work _ ["thing"] spChkWork := ⟨ok_chkWork F_check_work IW, m_check_work, k_check_work, b_check_work⟩
  have CK : Fk l.prog w K mg base 25 "check_works" f_check_works _ ["thing"] spChkWorks := ⟨ok_chkWorks F_check_works CW T GF q_list, m_check_works, k_check_works, b_check_works⟩
  have SIs : ∀ n, FnOk l.prog w K mg base CX0 (n + 1) f_starts_in (PySem.W.fnOf "starts_in" "starts_in" (defArgs sStartsIn) (defBody sStartsIn) (defScope sStartsIn) .none kV_starts_in dc_starts_in pm_starts_in an_starts_in cd_starts_in ct_starts_in) ["rows"] (spStartsIn n) := by
    intro n
    induction n with
    | zero => exact ok_startsIn (n := 0) F_starts_in (fun h => absurd h (by decide)) m_starts_in b_starts_in
    | succ n ih => exact ok_startsIn (n := n + 1) F_starts_in (fun _ => ih) m_starts_in b_starts_in
  have CS : Fk l.prog w K mg base 5 "check_starts" f_check_starts _ ["works"] spChkStarts := ⟨ok_chkStarts F_check_starts ⟨SIs 3, m_starts_in, k_starts_in, b_starts_in⟩ ⟨ok_handed F_handed_counts T, m_handed_counts, k_handed_counts, b_handed_counts⟩ ⟨ok_chkStart F_check_start T, m_check_start, k_check_start, b_check_start⟩ T, m_check_starts, k_check_starts, b_check_starts⟩
  have GI := ok_bookInit F_Book___init__ BKT CK CS q_tuple
  have SXm : SupC l.prog K mg "Missing" "name" cMissing fXm "LookupError" "LookupError.__new__" "LookupError.__init__" [.type "LookupError", .type "Exception", .type "BaseException", .type "object"] := by
    subst Xmbm0
    exact ⟨PySem.W.mg_of X G aMissing, PySem.F.excBase_LookupError, PySem.W.kxs_LookupError, by decide +kernel, ⟨_, _, _, _, _, _, _, _, _, _, _, _, _, _, _, Xmcls, fun _ => rfl, PySem.F.store_LookupError.passes, Xmal, by decide +kernel⟩, Xmsa, XmnoF, XmiC, XmtC, XmkC, XmexC, tyMissing, sBMissing, Xmop, q_super, Xmtop, by decide +kernel, by decide +kernel, by decide +kernel, by decide +kernel,
      ⟨_, _, _, _, _, _, _, _, _, _, _, _, _, _, _, _, _, _, _, _, _, _, _, _, _, Xmfn, Xmcd, Xmli, fun _ _ => rfl, ⟨_, _, _, _, _, _, Xmlc, Xmv2, Xmfi⟩, ⟨_, _, _, Xmce⟩, Xma, Xma, Xmj1, 0, Xmpf, Xmpv, Xmpa, Xmpa, XmlA, XmlA, .inl rfl⟩⟩
  have SXb : SupC l.prog K mg "Broken" "number" cBroken fXb "ArithmeticError" "ArithmeticError.__new__" "ArithmeticError.__init__" [.type "ArithmeticError", .type "Exception", .type "BaseException", .type "object"] := by
    subst Xbbm0
    exact ⟨PySem.W.mg_of X G aBroken, PySem.F.excBase_ArithmeticError, PySem.W.kxs_ArithmeticError, by decide +kernel, ⟨_, _, _, _, _, _, _, _, _, _, _, _, _, _, _, Xbcls, fun _ => rfl, PySem.F.store_ArithmeticError.passes, Xbal, by decide +kernel⟩, Xbsa, XbnoF, XbiC, XbtC, XbkC, XbexC, tyBroken, sBBroken, Xbop, q_super, Xbtop, by decide +kernel, by decide +kernel, by decide +kernel, by decide +kernel,
      ⟨_, _, _, _, _, _, _, _, _, _, _, _, _, _, _, _, _, _, _, _, _, _, _, _, _, Xbfn, Xbcd, Xbli, fun _ _ => rfl, ⟨_, _, _, _, _, _, Xblc, Xbv2, Xbfi⟩, ⟨_, _, _, Xbce⟩, Xba, Xba, Xbj1, 0, Xbpf, Xbpv, Xbpa, Xbpa, XblA, XblA, .inl rfl⟩⟩
  have SXs : SupC l.prog K mg "Spent" "steps" cSpent fXs "RuntimeError" "RuntimeError.__new__" "RuntimeError.__init__" [.type "RuntimeError", .type "Exception", .type "BaseException", .type "object"] := by
    subst Xsbm0
    exact ⟨PySem.W.mg_of X G aSpent, PySem.F.excBase_RuntimeError, PySem.W.kxs_RuntimeError, by decide +kernel, ⟨_, _, _, _, _, _, _, _, _, _, _, _, _, _, _, Xscls, fun _ => rfl, PySem.F.store_RuntimeError.passes, Xsal, by decide +kernel⟩, Xssa, XsnoF, XsiC, XstC, XskC, XsexC, tySpent, sBSpent, Xsop, q_super, Xstop, by decide +kernel, by decide +kernel, by decide +kernel, by decide +kernel,
      ⟨_, _, _, _, _, _, _, _, _, _, _, _, _, _, _, _, _, _, _, _, _, _, _, _, _, Xsfn, Xscd, Xsli, fun _ _ => rfl, ⟨_, _, _, _, _, _, Xslc, Xsv2, Xsfi⟩, ⟨_, _, _, Xsce⟩, Xsa, Xsb, Xsj1, Xsj2, Xspf, Xspv, Xspa, Xspb, XslA, XslB, .inr rfl⟩⟩
  have TT : TkT K C_Task := ⟨cl_Task, na_path_Task, na_frames_Task, na_frames_begun_Task, na_goes_Task, na_steps_Task, na_result_Task⟩
  have FT : FrT K C_Frame := ⟨cl_Frame, na_code_Frame, na_room_Frame, na_worths_Frame, na_depth_Frame, na_number_Frame, na_place_Frame⟩
  have RT : RnT K C_Run := ⟨cl_Run, na_result_Run, na_count_Run, na_most_Run, na_results_Run⟩
  have RK : Rk mg := ⟨⟨_, PySem.W.mg_of X G g_NO_WORTH⟩, ⟨_, PySem.W.mg_of X G g_NO_NUMBER⟩, ⟨_, PySem.W.mg_of X G g_NO_FUTURE⟩, ⟨_, PySem.W.mg_of X G g_TOO_GREAT⟩, ⟨_, by rw [e30]; exact PySem.W.mg_of X G g_MOST_NUMBER⟩⟩
  have RDp : Dp0 mg := ⟨⟨_, PySem.W.mg_of X G g_TOO_DEEP⟩, ⟨_, PySem.W.mg_of X G g_DEEPEST_FRAME⟩⟩
  obtain ⟨⟨gW0, kW0⟩, ⟨gW2, kW2⟩⟩ := frameOf_kw (doc := dc_frame_of_work) (pm := pm_frame_of_work) (an := an_frame_of_work) (cdv := cd_frame_of_work) (ct := ct_frame_of_work) kdW1 kdW2
  obtain ⟨⟨gB0, kB0⟩, ⟨gB1, kB1⟩⟩ := begun_kw (doc := dc_begun_frame) (pm := pm_begun_frame) (an := an_begun_frame) (cdv := cd_begun_frame) (ct := ct_begun_frame) kdB
  obtain ⟨gF, kF⟩ := frameInit_kw (doc := dc_Frame___init__) (pm := pm_Frame___init__) (an := an_Frame___init__) (cdv := cd_Frame___init__) (ct := ct_Frame___init__) kdF
  obtain ⟨⟨gS0, kS0⟩, _⟩ := serial_kw (doc := dc_serial) (pm := pm_serial) (an := an_serial) (cdv := cd_serial) (ct := ct_serial) kdS
  have FU : Fk l.prog w K mg base 1 "is_future" f_is_future _ ["worth"] spIsFut := ⟨ok_isFut F_is_future T q_tuple, m_is_future, k_is_future, b_is_future⟩
  have FUN : Fk l.prog w K mg base 1 "is_future" f_is_future _ ["worth"] spIsFutN := ⟨ok_isFutN F_is_future T q_tuple, m_is_future, k_is_future, b_is_future⟩
  have WO : FkX l.prog w K mg base 2 "worth_of" f_worth_of _ ["name", "worths"] (spWorthOf cBroken) := ⟨ok_worthOf F_worth_of SXb RK, m_worth_of, k_worth_of, b_worth_of⟩
  have ASN : FkX l.prog w K mg base 2 "as_number" f_as_number _ ["worth"] (spAsNum cBroken) := ⟨ok_asNum F_as_number FU SXb RK, m_as_number, k_as_number, b_as_number⟩
  have CO0 : Fk l.prog w K mg base 1 "combine" f_combine _ ["sign", "left", "right"] spCombine := ⟨ok_combine F_combine, m_combine, k_combine, b_combine⟩
  have OPR : FkX l.prog w K mg base 2 "operate" f_operate _ ["sign", "left", "right"] (spOperate cBroken) := ⟨ok_operate F_operate CO0 SXb RK T, m_operate, k_operate, b_operate⟩
  have RE : FkX l.prog w K mg base 8 "reckon" f_reckon _ ["tree", "worths"] (spReckon cBroken 6) := ⟨reckons F_reckon m_reckon k_reckon b_reckon WO ASN OPR 6, m_reckon, k_reckon, b_reckon⟩
  have RN : FkX l.prog w K mg base 9 "reckon_number" f_reckon_number _ ["tree", "worths"] (spReckonN cBroken 6) := ⟨ok_reckonN F_reckon_number RE ASN, m_reckon_number, k_reckon_number, b_reckon_number⟩
  have CO : Fk l.prog w K mg base 9 "code_of" f_code_of _ ["work"] spCodeOf := ⟨ok_codeOf F_code_of ⟨codesAll F_rows_code m_rows_code b_rows_code F_if_code m_if_code b_if_code T 3, m_rows_code, k_rows_code, b_rows_code⟩, m_code_of, k_code_of, b_code_of⟩
  have NR : Fk l.prog w K mg base 1 "next_row" f_next_row _ ["task"] (spNextRow C_Task C_Frame) := ⟨ok_nextRow F_next_row TT FT, m_next_row, k_next_row, b_next_row⟩
  have RO : Fk l.prog w K mg base 1 "room_of" f_room_of _ ["task"] (spRoomOf C_Task C_Frame) := ⟨ok_roomOf F_room_of TT FT q_sum, m_room_of, k_room_of, b_room_of⟩
  have MT : Fk l.prog w K mg base 1 "most_taken" f_most_taken _ ["room", "nodes"] spMostT := ⟨ok_mostT F_most_taken ⟨_, PySem.W.mg_of X G g_CHANGE⟩ T, m_most_taken, k_most_taken, b_most_taken⟩
  have TI : MkF l.prog w K mg base 1 "Task" C_Task f_Task___init__ _ ["self", "path", "frames"] (spTaskInit C_Task) := ⟨⟨mk_Task, a_Task___init__, i_Task___init__, kc_Task⟩, ok_taskInit F_Task___init__ TT T, mC_Task⟩
  have FI : MkF l.prog w K mg base 1 "Frame" C_Frame f_Frame___init__ _ ["self", "code", "room", "worths", "depth", "number", "place"] (spFrameInit C_Frame) := ⟨⟨mk_Frame, a_Frame___init__, i_Frame___init__, kc_Frame⟩, ok_frameInit F_Frame___init__ FT, mC_Frame⟩
  have RI : MkF l.prog w K mg base 1 "Run" C_Run f_Run___init__ _ ["self", "results", "count", "most"] (spRunInit C_Run) := ⟨⟨mk_Run, a_Run___init__, i_Run___init__, kc_Run⟩, ok_runInit F_Run___init__ RT, mC_Run⟩
  have MV : Fk l.prog w K mg base 1 "move" f_move _ ["frame", "place"] (spMove C_Frame) := ⟨ok_move F_move FT, m_move, k_move, b_move⟩
  have NM : Fk l.prog w K mg base 2 "name_and_move" f_name_and_move _ ["frame", "name", "worth"] (spNameMove C_Frame) := ⟨ok_nameMove F_name_and_move FT MV, m_name_and_move, k_name_and_move, b_name_and_move⟩
  have GV : Fk l.prog w K mg base 3 "give" f_give _ ["task", "worth"] (spGive C_Task C_Frame) := ⟨ok_give F_give TT NR NM, m_give, k_give, b_give⟩
  have FW : FkN l.prog w K mg base CX0 10 "frame_of_work" f_frame_of_work _ ["work", "handed", "depth", "number"] (spFrameOf C_Frame) := ⟨ok_frameOf F_frame_of_work CO FI kF q_dict q_zip, m_frame_of_work, k_frame_of_work⟩
  have TR : FkMX l.prog w K mg base 2 C_Book "tree" f_Book_tree _ ["self", "name"] (spBookTree C_Book cMissing) := ⟨M_Book_tree, ok_bookTree F_Book_tree BKT SXm, b_Book_tree⟩
  have HO : FkX l.prog w K mg base 9 "handed_on" f_handed_on _ ["frame", "row"] (spHandedOn cBroken C_Frame) := ⟨ok_handedOn F_handed_on FT RE SXb RDp, m_handed_on, k_handed_on, b_handed_on⟩
  have BGN : FkN l.prog w K mg base (L2.CX l.prog w) 11 "begun_frame" f_begun_frame _ ["frame", "row", "book", "number"] (spBegun cBroken C_Frame C_Book) := ⟨ok_begun F_begun_frame FT BKT HO TR FW kW2, m_begun_frame, k_begun_frame⟩
  have ST : FkX l.prog w K mg base 12 "start_task" f_start_task _ ["task", "row", "book"] (spStart cBroken C_Task C_Frame C_Book) := ⟨ok_start F_start_task TT BGN kB0 TI b_Task___init__ NM, m_start_task, k_start_task, b_start_task⟩
  have CWK : FkX l.prog w K mg base 12 "call_work" f_call_work _ ["task", "row", "book"] (spCallW cBroken C_Task C_Frame C_Book) := ⟨ok_callW F_call_work TT BGN kB1, m_call_work, k_call_work, b_call_work⟩
  have PO : FkX l.prog w K mg base 3 "path_of" f_path_of _ ["name", "worths"] (spPathOf cBroken) := ⟨ok_pathOf F_path_of WO FU SXb RK, m_path_of, k_path_of, b_path_of⟩
  have WW : FkX l.prog w K mg base 10 "wait_worth" f_wait_worth _ ["row", "frame", "results"] (spWaitW cBroken C_Frame) := ⟨ok_waitW F_wait_worth FT PO RE SXb, m_wait_worth, k_wait_worth, b_wait_worth⟩
  have DR : FkX l.prog w K mg base 13 "do_row" f_do_row _ ["task", "book", "results"] (spDoRow cBroken C_Task C_Frame (spStart cBroken C_Task C_Frame C_Book) (spCallW cBroken C_Task C_Frame C_Book) (spWaitW cBroken C_Frame)) := ⟨ok_doRow F_do_row TT FT SXb NR ST CWK GV RE RN MV NM WW, m_do_row, k_do_row, b_do_row⟩
  have TY : Fk l.prog w K mg base 14 "try_row" f_try_row _ ["task", "book", "results"] (spTryH C_Task C_Frame C_Book) := ⟨(ok_tryRow F_try_row TT monoStart monoCallW monoWaitW NR DR SXb.gC (exm_self XbexC isBroken tyBroken suBroken) ⟨Xbga, Xbgg, XbexC, Xbhd⟩ XbnoF).imp (fun vs H Q E h => try_high vs H Q E h), m_try_row, k_try_row, b_try_row⟩
  have WP : Fk l.prog w K mg base 2 "waited_path" f_waited_path _ ["task"] (spWaited C_Task C_Frame) := ⟨ok_waited F_waited_path TT FT NR FUN, m_waited_path, k_waited_path, b_waited_path⟩
  have DS : Fk l.prog w K mg base 15 "do_step" f_do_step _ ["task", "book", "results"] (spStep C_Task C_Frame C_Book) := ⟨ok_step F_do_step TT FT WP RO TY, m_do_step, k_do_step, b_do_step⟩
  have WKK : FkX l.prog w K mg base 16 "walk" f_walk _ ["main", "book", "budget"] (spWalk C_Task C_Frame C_Book cSpent) := ⟨ok_walk F_walk TT DS SXs T, m_walk, k_walk, b_walk⟩
  have ARN : Fk l.prog w K mg base 2 "are_numbers" f_are_numbers _ ["thing", "many"] spAreNums := ⟨ok_areNums F_are_numbers WH RK T q_list, m_are_numbers, k_are_numbers, b_are_numbers⟩
  have FS : FkX l.prog w K mg base 11 "first_task" f_first_task _ ["book", "name", "args"] (spFirst C_Task C_Frame C_Book) := ⟨ok_first F_first_task BKT TR ARN FW kW0 TI b_Task___init__ T, m_first_task, k_first_task, b_first_task⟩
  have SE : FkN l.prog w K mg base (L2.CX l.prog w) 17 "serial" f_serial _ ["book", "name", "args", "budget"] (spSerial C_Task C_Frame C_Book cSpent C_Run) := ⟨ok_serial F_serial FS RO WKK MT RI b_Run___init__ T, m_serial, k_serial⟩
  have EN : FkM l.prog w K mg base 1 C_Run "ends" f_Run_ends _ ["self"] (spEnds K C_Run) := ⟨M_Run_ends, ok_ends F_Run_ends RT q_sorted, b_Run_ends⟩
  have TKE : Fk l.prog w K mg base 1 "_law_take" f_Ltake _ ["_law_bag_here", "_law_many"] spTake := ⟨ok_take F_Ltake, m_Ltake, k_Ltake, b_Ltake⟩
  have KPT : Fk l.prog w K mg base 1 "_law_kept" f_Lkept _ [] spKept := ⟨ok_kept F_Lkept, m_Lkept, k_Lkept, b_Lkept⟩
  have NBR : Fk l.prog w K mg base 2 "_law_number" f_Lnumber _ ["_law_bag_here"] spNumber := ⟨ok_number F_Lnumber TKE T, m_Lnumber, k_Lnumber, b_Lnumber⟩
  have NMS : Fk l.prog w K mg base 2 "_law_names" f_Lnames _ ["_law_bag_here", "_law_many"] spNames := ⟨ok_names F_Lnames TKE KPT T, m_Lnames, k_Lnames, b_Lnames⟩
  have TRS : Fk l.prog w K mg base 8 "_law_tree" f_Ltree _ ["_law_bag_here", "_law_names_here", "_law_deep"] (spTrees 6) := ⟨trees_all F_Ltree m_Ltree b_Ltree TKE NBR T 6, m_Ltree, k_Ltree, b_Ltree⟩
  have ARG : Fk l.prog w K mg base 3 "_law_args" f_Largs _ ["_law_bag_here", "_law_many"] spArgs := ⟨ok_args F_Largs TKE NBR T, m_Largs, k_Largs, b_Largs⟩
  have VAL : Fk l.prog w K mg base 6 "_law_value" f_Lvalue _ ["_law_tree_here", "_law_held"] (spValue 6) := ⟨values F_Lvalue m_Lvalue k_Lvalue b_Lvalue T q_tuple 6, m_Lvalue, k_Lvalue, b_Lvalue⟩
  have TOL : Fk l.prog w K mg base 28 "_law_told" f_Ltold _ ["_law_works", "_law_args_here"] (spTold K) := ⟨ok_told F_Ltold RT SE kS0 EN BKT ⟨mk_Book, a_Book___init__, i_Book___init__, kc_Book⟩ GI b_Book___init__, m_Ltold, k_Ltold, b_Ltold⟩
  have EDG : Fk l.prog w K mg base 2 "_law_edge" f_Ledge _ ["_law_bag_here"] spEdge := ⟨ok_edge F_Ledge TKE, m_Ledge, k_Ledge, b_Ledge⟩
  have IR : FkG l.prog w K mg base 29 "_law_is_right" f_Lis_right _ ["_law_row", "_law_names_here", "_law_args_here", "_law_room"] (spRight K) := ⟨ok_right F_Lis_right VAL TOL T q_tuple q_list q_zip q_dict q_repr, m_Lis_right, k_Lis_right, b_Lis_right⟩
  exact ok_law F_law ⟨ok_bag F_Lbag T, m_Lbag, k_Lbag, b_Lbag⟩ TKE NMS ARG TRS EDG IR T
abbrev fa_0 : HK.Fr → Bool := fun K => HK.strAt K mainGlobals "LETTERS" "abcdefghijklmnopqrstuvwxyz"
abbrev fa_1 : HK.Fr → Bool := fun K => HK.intAt K mainGlobals "MOST_WORKS" 12
abbrev fa_2 : HK.Fr → Bool := fun K => HK.intAt K mainGlobals "MOST_ROWS" 40
abbrev fa_3 : HK.Fr → Bool := fun K => HK.intAt K mainGlobals "MOST_NAMES" 4
abbrev fa_4 : HK.Fr → Bool := fun K => HK.intAt K mainGlobals "MOST_EXPRESSIONS" 4
abbrev fa_5 : HK.Fr → Bool := fun K => HK.intAt K mainGlobals "MOST_IFS" 3
abbrev fa_6 : HK.Fr → Bool := fun K => HK.intAt K mainGlobals "MOST_LETTERS" 8
abbrev fa_7 : HK.Fr → Bool := fun K => HK.intAt K mainGlobals "MOST_ROOM" 1000
abbrev fa_8 : HK.Fr → Bool := fun K => HK.intAt K mainGlobals "MOST_NUMBER" 999999999999999999999999999999
abbrev fa_9 : HK.Fr → Bool := fun K => HK.intAt K mainGlobals "NO_ROWS" (-1)
abbrev fa_10 : HK.Fr → Bool := fun K => HK.intAt K mainGlobals "NO_WORTH" (-1)
abbrev fa_11 : HK.Fr → Bool := fun K => HK.intAt K mainGlobals "NO_NUMBER" (-2)
abbrev fa_12 : HK.Fr → Bool := fun K => HK.intAt K mainGlobals "NO_FUTURE" (-3)
abbrev fa_13 : HK.Fr → Bool := fun K => HK.intAt K mainGlobals "TOO_GREAT" (-4)
abbrev fa_14 : HK.Fr → Bool := fun K => HK.intAt K mainGlobals "TOO_DEEP" (-5)
abbrev fa_15 : HK.Fr → Bool := fun K => HK.intAt K mainGlobals "DEEPEST_FRAME" 30
abbrev fa_16 : HK.Fr → Bool := fun K => HK.intAt K mainGlobals "CHANGE" 6
abbrev fa_17 : HK.Fr → Bool := fun K => HK.tupAt K (He.ga K "WORDS") (kept.map V.str)
abbrev fa_18 : HK.Fr → Bool := fun K => HK.tupAt K (He.ga K "SIGNS") (signsL.map V.str)
abbrev fa_19 : HK.Fr → Bool := fun K => HK.seqAt K (HK.dfA K ("is_expression", none)) [V.int 6]
abbrev fa_20 : HK.Fr → Bool := fun K => HK.intAt K (HK.kwA K ("frame_of_work", none)) "depth" 1
abbrev fa_21 : HK.Fr → Bool := fun K => HK.intAt K (HK.kwA K ("frame_of_work", none)) "number" 0
abbrev fa_22 : HK.Fr → Bool := fun K => HK.intAt K (HK.kwA K ("begun_frame", none)) "number" 0
abbrev fa_23 : HK.Fr → Bool := fun K => HK.intAt K (HK.kwA K ("Frame", some "__init__")) "place" 0
abbrev fa_24 : HK.Fr → Bool := fun K => HK.intAt K (HK.kwA K ("serial", none)) "budget" 400
abbrev fa_25 : HK.Fr → Bool := fun K => HK.excAt K (He.ga K "Missing") [.type "LookupError", .type "Exception", .type "BaseException", .type "object"] "LookupError.__new__"
abbrev fa_26 : HK.Fr → Bool := fun K => HK.fileAt K (HK.cdA K ("Missing", some "__init__")) "/claim/cut.py"
abbrev fa_27 : HK.Fr → Bool := fun K => HK.cellAt K (HK.ccA K ("Missing", some "__init__")) (He.ga K "Missing")
abbrev fa_28 : HK.Fr → Bool := fun K => HK.excAt K (He.ga K "Broken") [.type "ArithmeticError", .type "Exception", .type "BaseException", .type "object"] "ArithmeticError.__new__"
abbrev fa_29 : HK.Fr → Bool := fun K => HK.fileAt K (HK.cdA K ("Broken", some "__init__")) "/claim/cut.py"
abbrev fa_30 : HK.Fr → Bool := fun K => HK.cellAt K (HK.ccA K ("Broken", some "__init__")) (He.ga K "Broken")
abbrev fa_31 : HK.Fr → Bool := fun K => HK.excAt K (He.ga K "Spent") [.type "RuntimeError", .type "Exception", .type "BaseException", .type "object"] "RuntimeError.__new__"
abbrev fa_32 : HK.Fr → Bool := fun K => HK.fileAt K (HK.cdA K ("Spent", some "__init__")) "/claim/cut.py"
abbrev fa_33 : HK.Fr → Bool := fun K => HK.cellAt K (HK.ccA K ("Spent", some "__init__")) (He.ga K "Spent")
abbrev fa_34 : HK.Fr → Bool := fun K => decide ((PySem.W.nsIn K mainGlobals "Book" = some (some (.ref (He.ga K "Book")))) ∧ (PySem.W.nsIn K mainGlobals "Frame" = some (some (.ref (He.ga K "Frame")))) ∧ (PySem.W.nsIn K mainGlobals "Task" = some (some (.ref (He.ga K "Task")))) ∧ (PySem.W.nsIn K mainGlobals "Run" = some (some (.ref (He.ga K "Run")))) ∧ (PySem.W.nsIn K mainGlobals "check_work" = some (some (.ref (He.ga K "check_work")))) ∧ (PySem.W.nsIn K mainGlobals "is_work" = some (some (.ref (He.ga K "is_work")))) ∧ (PySem.W.nsIn K mainGlobals "is_tuple_of" = some (some (.ref (He.ga K "is_tuple_of")))) ∧ (PySem.W.nsIn K mainGlobals "is_whole" = some (some (.ref (He.ga K "is_whole")))) ∧ (PySem.W.nsIn K mainGlobals "is_whole_within" = some (some (.ref (He.ga K "is_whole_within")))) ∧ (PySem.W.nsIn K mainGlobals "is_name" = some (some (.ref (He.ga K "is_name")))))
abbrev fa_35 : HK.Fr → Bool := fun K => decide ((PySem.W.nsIn K mainGlobals "are_names" = some (some (.ref (He.ga K "are_names")))) ∧ (PySem.W.nsIn K mainGlobals "is_expression" = some (some (.ref (He.ga K "is_expression")))) ∧ (PySem.W.nsIn K mainGlobals "is_leaf" = some (some (.ref (He.ga K "is_leaf")))) ∧ (PySem.W.nsIn K mainGlobals "are_expressions" = some (some (.ref (He.ga K "are_expressions")))) ∧ (PySem.W.nsIn K mainGlobals "rows_left" = some (some (.ref (He.ga K "rows_left")))) ∧ (PySem.W.nsIn K mainGlobals "row_left" = some (some (.ref (He.ga K "row_left")))) ∧ (PySem.W.nsIn K mainGlobals "branches_left" = some (some (.ref (He.ga K "branches_left")))) ∧ (PySem.W.nsIn K mainGlobals "is_if_head" = some (some (.ref (He.ga K "is_if_head")))) ∧ (PySem.W.nsIn K mainGlobals "is_plain_row" = some (some (.ref (He.ga K "is_plain_row")))) ∧ (PySem.W.nsIn K mainGlobals "check_works" = some (some (.ref (He.ga K "check_works")))))
abbrev fa_36 : HK.Fr → Bool := fun K => decide ((PySem.W.nsIn K mainGlobals "check_starts" = some (some (.ref (He.ga K "check_starts")))) ∧ (PySem.W.nsIn K mainGlobals "handed_counts" = some (some (.ref (He.ga K "handed_counts")))) ∧ (PySem.W.nsIn K mainGlobals "check_start" = some (some (.ref (He.ga K "check_start")))) ∧ (PySem.W.nsIn K mainGlobals "starts_in" = some (some (.ref (He.ga K "starts_in")))) ∧ (PySem.W.findIn K (.ref (He.ga K "Book")) "__init__" = some (some (.ref (He.ma K (He.ga K "Book") "__init__")))) ∧ (PySem.W.isFn K (.ref (He.ma K (He.ga K "Book") "__init__")) = true) ∧ (PySem.W.findIn K (.ref (He.ga K "Book")) "tree" = some (some (.ref (He.ma K (He.ga K "Book") "tree")))) ∧ (PySem.W.isFn K (.ref (He.ma K (He.ga K "Book") "tree")) = true) ∧ (PySem.W.nsIn K mainGlobals "code_of" = some (some (.ref (He.ga K "code_of")))) ∧ (PySem.W.nsIn K mainGlobals "rows_code" = some (some (.ref (He.ga K "rows_code")))))
abbrev fa_37 : HK.Fr → Bool := fun K => decide ((PySem.W.nsIn K mainGlobals "if_code" = some (some (.ref (He.ga K "if_code")))) ∧ (PySem.W.nsIn K mainGlobals "is_future" = some (some (.ref (He.ga K "is_future")))) ∧ (PySem.W.nsIn K mainGlobals "worth_of" = some (some (.ref (He.ga K "worth_of")))) ∧ (PySem.W.nsIn K mainGlobals "path_of" = some (some (.ref (He.ga K "path_of")))) ∧ (PySem.W.nsIn K mainGlobals "reckon" = some (some (.ref (He.ga K "reckon")))) ∧ (PySem.W.nsIn K mainGlobals "reckon_number" = some (some (.ref (He.ga K "reckon_number")))) ∧ (PySem.W.nsIn K mainGlobals "as_number" = some (some (.ref (He.ga K "as_number")))) ∧ (PySem.W.nsIn K mainGlobals "operate" = some (some (.ref (He.ga K "operate")))) ∧ (PySem.W.nsIn K mainGlobals "combine" = some (some (.ref (He.ga K "combine")))) ∧ (PySem.W.findIn K (.ref (He.ga K "Frame")) "__init__" = some (some (.ref (He.ma K (He.ga K "Frame") "__init__")))))
abbrev fa_38 : HK.Fr → Bool := fun K => decide ((PySem.W.isFn K (.ref (He.ma K (He.ga K "Frame") "__init__")) = true) ∧ (PySem.W.findIn K (.ref (He.ga K "Task")) "__init__" = some (some (.ref (He.ma K (He.ga K "Task") "__init__")))) ∧ (PySem.W.isFn K (.ref (He.ma K (He.ga K "Task") "__init__")) = true) ∧ (PySem.W.nsIn K mainGlobals "frame_of_work" = some (some (.ref (He.ga K "frame_of_work")))) ∧ (PySem.W.nsIn K mainGlobals "room_of" = some (some (.ref (He.ga K "room_of")))) ∧ (PySem.W.nsIn K mainGlobals "next_row" = some (some (.ref (He.ga K "next_row")))) ∧ (PySem.W.nsIn K mainGlobals "waited_path" = some (some (.ref (He.ga K "waited_path")))) ∧ (PySem.W.nsIn K mainGlobals "do_step" = some (some (.ref (He.ga K "do_step")))) ∧ (PySem.W.nsIn K mainGlobals "try_row" = some (some (.ref (He.ga K "try_row")))) ∧ (PySem.W.nsIn K mainGlobals "do_row" = some (some (.ref (He.ga K "do_row")))))
abbrev fa_39 : HK.Fr → Bool := fun K => decide ((PySem.W.nsIn K mainGlobals "start_task" = some (some (.ref (He.ga K "start_task")))) ∧ (PySem.W.nsIn K mainGlobals "call_work" = some (some (.ref (He.ga K "call_work")))) ∧ (PySem.W.nsIn K mainGlobals "begun_frame" = some (some (.ref (He.ga K "begun_frame")))) ∧ (PySem.W.nsIn K mainGlobals "handed_on" = some (some (.ref (He.ga K "handed_on")))) ∧ (PySem.W.nsIn K mainGlobals "give" = some (some (.ref (He.ga K "give")))) ∧ (PySem.W.nsIn K mainGlobals "wait_worth" = some (some (.ref (He.ga K "wait_worth")))) ∧ (PySem.W.nsIn K mainGlobals "name_and_move" = some (some (.ref (He.ga K "name_and_move")))) ∧ (PySem.W.nsIn K mainGlobals "move" = some (some (.ref (He.ga K "move")))) ∧ (PySem.W.nsIn K mainGlobals "serial" = some (some (.ref (He.ga K "serial")))) ∧ (PySem.W.findIn K (.ref (He.ga K "Run")) "__init__" = some (some (.ref (He.ma K (He.ga K "Run") "__init__")))))
abbrev fa_40 : HK.Fr → Bool := fun K => decide ((PySem.W.isFn K (.ref (He.ma K (He.ga K "Run") "__init__")) = true) ∧ (PySem.W.findIn K (.ref (He.ga K "Run")) "ends" = some (some (.ref (He.ma K (He.ga K "Run") "ends")))) ∧ (PySem.W.isFn K (.ref (He.ma K (He.ga K "Run") "ends")) = true) ∧ (PySem.W.nsIn K mainGlobals "first_task" = some (some (.ref (He.ga K "first_task")))) ∧ (PySem.W.nsIn K mainGlobals "are_numbers" = some (some (.ref (He.ga K "are_numbers")))) ∧ (PySem.W.nsIn K mainGlobals "walk" = some (some (.ref (He.ga K "walk")))) ∧ (PySem.W.nsIn K mainGlobals "most_taken" = some (some (.ref (He.ga K "most_taken")))) ∧ (PySem.W.nsIn K mainGlobals "_law_bag" = some (some (.ref (He.ga K "_law_bag")))) ∧ (PySem.W.nsIn K mainGlobals "_law_take" = some (some (.ref (He.ga K "_law_take")))) ∧ (PySem.W.nsIn K mainGlobals "_law_kept" = some (some (.ref (He.ga K "_law_kept")))))
abbrev fa_41 : HK.Fr → Bool := fun K => decide ((PySem.W.nsIn K mainGlobals "_law_names" = some (some (.ref (He.ga K "_law_names")))) ∧ (PySem.W.nsIn K mainGlobals "_law_number" = some (some (.ref (He.ga K "_law_number")))) ∧ (PySem.W.nsIn K mainGlobals "_law_tree" = some (some (.ref (He.ga K "_law_tree")))) ∧ (PySem.W.nsIn K mainGlobals "_law_args" = some (some (.ref (He.ga K "_law_args")))) ∧ (PySem.W.nsIn K mainGlobals "_law_value" = some (some (.ref (He.ga K "_law_value")))) ∧ (PySem.W.nsIn K mainGlobals "_law_told" = some (some (.ref (He.ga K "_law_told")))) ∧ (PySem.W.nsIn K mainGlobals "_law_is_right" = some (some (.ref (He.ga K "_law_is_right")))) ∧ (PySem.W.nsIn K mainGlobals "_law_edge" = some (some (.ref (He.ga K "_law_edge")))) ∧ (PySem.W.nsIn K mainGlobals "law" = some (some (.ref (He.ga K "law")))) ∧ (PySem.W.nsIn K mainGlobals "len" = some none))
abbrev fa_42 : HK.Fr → Bool := fun K => decide ((PySem.W.nsIn K mainGlobals "abs" = some none) ∧ (PySem.W.nsIn K mainGlobals "int" = some none) ∧ (PySem.W.nsIn K mainGlobals "str" = some none) ∧ (PySem.W.nsIn K mainGlobals "range" = some none) ∧ (PySem.W.nsIn K mainGlobals "max" = some none) ∧ (PySem.W.nsIn K mainGlobals "min" = some none) ∧ (PySem.W.nsIn K mainGlobals "isinstance" = some none) ∧ (PySem.W.nsIn K mainGlobals "all" = some none) ∧ (PySem.W.nsIn K mainGlobals "tuple" = some none) ∧ (PySem.W.nsIn K mainGlobals "bool" = some none))
abbrev fa_43 : HK.Fr → Bool := fun K => decide ((PySem.W.nsIn K mainGlobals "set" = some none) ∧ (PySem.W.nsIn K mainGlobals "list" = some none) ∧ (PySem.W.nsIn K mainGlobals "repr" = some none) ∧ (PySem.W.nsIn K mainGlobals "super" = some none) ∧ (PySem.W.nsIn K mainGlobals "zip" = some none) ∧ (PySem.W.nsIn K mainGlobals "dict" = some none) ∧ (PySem.W.nsIn K mainGlobals "sum" = some none) ∧ (PySem.W.nsIn K mainGlobals "sorted" = some none) ∧ (PySem.W.plainGet K (He.ga K "Book") Str.empty = true) ∧ (PySem.W.hasDictIn K (He.ga K "Book") = true))
abbrev fa_44 : HK.Fr → Bool := fun K => decide ((PySem.W.plainOver K (He.ga K "Book") = true) ∧ (PySem.W.findIn K (.ref (He.ga K "Book")) "__setattr__" = some (some (.builtin "object.__setattr__"))) ∧ (PySem.W.makesIn K (He.ga K "Book") = true) ∧ (PySem.W.keepIn K (.ref (He.ga K "Book")) = true) ∧ (PySem.W.findIn K (.ref (He.ga K "Book")) "works" = some none) ∧ (PySem.W.plainGet K (He.ga K "Frame") Str.empty = true) ∧ (PySem.W.hasDictIn K (He.ga K "Frame") = true) ∧ (PySem.W.plainOver K (He.ga K "Frame") = true) ∧ (PySem.W.findIn K (.ref (He.ga K "Frame")) "__setattr__" = some (some (.builtin "object.__setattr__"))) ∧ (PySem.W.makesIn K (He.ga K "Frame") = true))
abbrev fa_45 : HK.Fr → Bool := fun K => decide ((PySem.W.keepIn K (.ref (He.ga K "Frame")) = true) ∧ (PySem.W.findIn K (.ref (He.ga K "Frame")) "code" = some none) ∧ (PySem.W.findIn K (.ref (He.ga K "Frame")) "room" = some none) ∧ (PySem.W.findIn K (.ref (He.ga K "Frame")) "worths" = some none) ∧ (PySem.W.findIn K (.ref (He.ga K "Frame")) "depth" = some none) ∧ (PySem.W.findIn K (.ref (He.ga K "Frame")) "number" = some none) ∧ (PySem.W.findIn K (.ref (He.ga K "Frame")) "place" = some none) ∧ (PySem.W.plainGet K (He.ga K "Task") Str.empty = true) ∧ (PySem.W.hasDictIn K (He.ga K "Task") = true) ∧ (PySem.W.plainOver K (He.ga K "Task") = true))
abbrev fa_46 : HK.Fr → Bool := fun K => decide ((PySem.W.findIn K (.ref (He.ga K "Task")) "__setattr__" = some (some (.builtin "object.__setattr__"))) ∧ (PySem.W.makesIn K (He.ga K "Task") = true) ∧ (PySem.W.keepIn K (.ref (He.ga K "Task")) = true) ∧ (PySem.W.findIn K (.ref (He.ga K "Task")) "path" = some none) ∧ (PySem.W.findIn K (.ref (He.ga K "Task")) "frames" = some none) ∧ (PySem.W.findIn K (.ref (He.ga K "Task")) "frames_begun" = some none) ∧ (PySem.W.findIn K (.ref (He.ga K "Task")) "goes" = some none) ∧ (PySem.W.findIn K (.ref (He.ga K "Task")) "steps" = some none) ∧ (PySem.W.findIn K (.ref (He.ga K "Task")) "result" = some none) ∧ (PySem.W.plainGet K (He.ga K "Run") Str.empty = true))
abbrev fa_47 : HK.Fr → Bool := fun K => decide ((PySem.W.hasDictIn K (He.ga K "Run") = true) ∧ (PySem.W.plainOver K (He.ga K "Run") = true) ∧ (PySem.W.findIn K (.ref (He.ga K "Run")) "__setattr__" = some (some (.builtin "object.__setattr__"))) ∧ (PySem.W.makesIn K (He.ga K "Run") = true) ∧ (PySem.W.keepIn K (.ref (He.ga K "Run")) = true) ∧ (PySem.W.findIn K (.ref (He.ga K "Run")) "result" = some none) ∧ (PySem.W.findIn K (.ref (He.ga K "Run")) "count" = some none) ∧ (PySem.W.findIn K (.ref (He.ga K "Run")) "most" = some none) ∧ (PySem.W.findIn K (.ref (He.ga K "Run")) "results" = some none) ∧ (PySem.W.nsIn K mainGlobals "WORDS" = some (some (.ref (He.ga K "WORDS")))))
abbrev fa_48 : HK.Fr → Bool := fun K => decide ((PySem.W.nsIn K mainGlobals "SIGNS" = some (some (.ref (He.ga K "SIGNS")))) ∧ (PySem.W.nsIn K mainGlobals "Missing" = some (some (.ref (He.ga K "Missing")))) ∧ (PySem.W.isClsIn K (He.ga K "Missing") = true) ∧ (PySem.W.typeIn K (.ref (He.ga K "Missing")) = some (.type "type")) ∧ (PySem.W.subIn K (.ref (He.ga K "Missing")) (.ref (He.ga K "Missing")) = some true) ∧ (PySem.W.subIn K (.ref (He.ga K "Missing")) (.type "LookupError") = some true) ∧ (PySem.W.alongIn K "__init__" [.type "LookupError", .type "Exception", .type "BaseException", .type "object"] = some (some (.builtin "LookupError.__init__"))) ∧ (PySem.W.findIn K (.ref (He.ga K "Missing")) "__setattr__" = some (some (.builtin "object.__setattr__"))) ∧ (PySem.W.findIn K (.ref (He.ga K "Missing")) "name" = some none) ∧ (PySem.W.findIn K (.ref (He.ga K "Missing")) "__init__" = some (some (.ref (He.ma K (He.ga K "Missing") "__init__")))))
abbrev fa_49 : HK.Fr → Bool := fun K => decide ((PySem.W.typeIn K (.ref (He.ma K (He.ga K "Missing") "__init__")) = some (.type "function")) ∧ (PySem.W.keepIn K (.ref (He.ga K "Missing")) = true) ∧ (PySem.W.subIn K (.ref (He.ga K "Missing")) (.type "BaseException") = some true) ∧ (PySem.W.nsIn K cStatics "thirdparty.any" = some none) ∧ (PySem.W.hasDictIn K (He.ga K "Missing") = true) ∧ (PySem.W.findIn K (.ref (He.ga K "Missing")) "__getattribute__" = some (some (.builtin "BaseException.__getattribute__"))) ∧ (PySem.W.findIn K (.ref (He.ga K "Missing")) "__getattr__" = some none) ∧ (PySem.W.nsIn K mainGlobals "Broken" = some (some (.ref (He.ga K "Broken")))) ∧ (PySem.W.isClsIn K (He.ga K "Broken") = true) ∧ (PySem.W.typeIn K (.ref (He.ga K "Broken")) = some (.type "type")))
abbrev fa_50 : HK.Fr → Bool := fun K => decide ((PySem.W.subIn K (.ref (He.ga K "Broken")) (.ref (He.ga K "Broken")) = some true) ∧ (PySem.W.subIn K (.ref (He.ga K "Broken")) (.type "ArithmeticError") = some true) ∧ (PySem.W.alongIn K "__init__" [.type "ArithmeticError", .type "Exception", .type "BaseException", .type "object"] = some (some (.builtin "ArithmeticError.__init__"))) ∧ (PySem.W.findIn K (.ref (He.ga K "Broken")) "__setattr__" = some (some (.builtin "object.__setattr__"))) ∧ (PySem.W.findIn K (.ref (He.ga K "Broken")) "number" = some none) ∧ (PySem.W.findIn K (.ref (He.ga K "Broken")) "__init__" = some (some (.ref (He.ma K (He.ga K "Broken") "__init__")))) ∧ (PySem.W.typeIn K (.ref (He.ma K (He.ga K "Broken") "__init__")) = some (.type "function")) ∧ (PySem.W.keepIn K (.ref (He.ga K "Broken")) = true) ∧ (PySem.W.subIn K (.ref (He.ga K "Broken")) (.type "BaseException") = some true) ∧ (PySem.W.nsIn K cStatics "thirdparty.any" = some none))
abbrev fa_51 : HK.Fr → Bool := fun K => decide ((PySem.W.hasDictIn K (He.ga K "Broken") = true) ∧ (PySem.W.findIn K (.ref (He.ga K "Broken")) "__getattribute__" = some (some (.builtin "BaseException.__getattribute__"))) ∧ (PySem.W.findIn K (.ref (He.ga K "Broken")) "__getattr__" = some none) ∧ (PySem.W.nsIn K mainGlobals "Spent" = some (some (.ref (He.ga K "Spent")))) ∧ (PySem.W.isClsIn K (He.ga K "Spent") = true) ∧ (PySem.W.typeIn K (.ref (He.ga K "Spent")) = some (.type "type")) ∧ (PySem.W.subIn K (.ref (He.ga K "Spent")) (.ref (He.ga K "Spent")) = some true) ∧ (PySem.W.subIn K (.ref (He.ga K "Spent")) (.type "RuntimeError") = some true) ∧ (PySem.W.alongIn K "__init__" [.type "RuntimeError", .type "Exception", .type "BaseException", .type "object"] = some (some (.builtin "RuntimeError.__init__"))) ∧ (PySem.W.findIn K (.ref (He.ga K "Spent")) "__setattr__" = some (some (.builtin "object.__setattr__"))))
abbrev fa_52 : HK.Fr → Bool := fun K => decide ((PySem.W.findIn K (.ref (He.ga K "Spent")) "steps" = some none) ∧ (PySem.W.findIn K (.ref (He.ga K "Spent")) "__init__" = some (some (.ref (He.ma K (He.ga K "Spent") "__init__")))) ∧ (PySem.W.typeIn K (.ref (He.ma K (He.ga K "Spent") "__init__")) = some (.type "function")) ∧ (PySem.W.keepIn K (.ref (He.ga K "Spent")) = true) ∧ (PySem.W.subIn K (.ref (He.ga K "Spent")) (.type "BaseException") = some true) ∧ (PySem.W.nsIn K cStatics "thirdparty.any" = some none) ∧ (PySem.W.hasDictIn K (He.ga K "Spent") = true) ∧ (PySem.W.findIn K (.ref (He.ga K "Spent")) "__getattribute__" = some (some (.builtin "BaseException.__getattribute__"))) ∧ (PySem.W.findIn K (.ref (He.ga K "Spent")) "__getattr__" = some none))
def faL0 : List (HK.Fr → Bool) := [fa_0, fa_1, fa_2, fa_3, fa_4, fa_5, fa_6, fa_7, fa_8, fa_9, fa_10, fa_11, fa_12, fa_13, fa_14, fa_15, fa_16, fa_17, fa_18, fa_19, fa_20, fa_21, fa_22, fa_23, fa_24]
def faL1 : List (HK.Fr → Bool) := [fa_25, fa_26, fa_27, fa_28, fa_29, fa_30, fa_31, fa_32, fa_33, fa_34, fa_35, fa_36, fa_37, fa_38, fa_39, fa_40, fa_41, fa_42, fa_43, fa_44, fa_45, fa_46, fa_47, fa_48, fa_49]
def faL2 : List (HK.Fr → Bool) := [fa_50, fa_51, fa_52]
def faL : List (HK.Fr → Bool) := faL0 ++ faL1 ++ faL2
def fnL0 : List HK.FD := [⟨("check_work", none), "check_work", "check_work", sChkWork, .plain⟩, ⟨("is_work", none), "is_work", "is_work", sIsWork, .plain⟩, ⟨("is_tuple_of", none), "is_tuple_of", "is_tuple_of", sTupOf, .plain⟩, ⟨("is_whole", none), "is_whole", "is_whole", sWhole, .plain⟩, ⟨("is_whole_within", none), "is_whole_within", "is_whole_within", sWithin, .plain⟩, ⟨("is_name", none), "is_name", "is_name", sIsName, .plain⟩, ⟨("are_names", none), "are_names", "are_names", sAreNames, .plain⟩, ⟨("is_expression", none), "is_expression", "is_expression", sIsEx, .dfl⟩, ⟨("is_leaf", none), "is_leaf", "is_leaf", sLeaf, .plain⟩, ⟨("are_expressions", none), "are_expressions", "are_expressions", sAreEx, .plain⟩, ⟨("rows_left", none), "rows_left", "rows_left", sRowsL, .plain⟩, ⟨("row_left", none), "row_left", "row_left", sRowL, .plain⟩, ⟨("branches_left", none), "branches_left", "branches_left", sBranL, .plain⟩, ⟨("is_if_head", none), "is_if_head", "is_if_head", sIfHead, .plain⟩, ⟨("is_plain_row", none), "is_plain_row", "is_plain_row", sPlain, .plain⟩, ⟨("check_works", none), "check_works", "check_works", sChkWorks, .plain⟩, ⟨("check_starts", none), "check_starts", "check_starts", sChkStarts, .plain⟩, ⟨("handed_counts", none), "handed_counts", "handed_counts", sHanded, .plain⟩, ⟨("check_start", none), "check_start", "check_start", sChkStart, .plain⟩, ⟨("starts_in", none), "starts_in", "starts_in", sStartsIn, .plain⟩, ⟨("Book", some "__init__"), "__init__", "Book.__init__", sBookInit, .plain⟩, ⟨("Book", some "tree"), "tree", "Book.tree", sBookTree, .plain⟩, ⟨("code_of", none), "code_of", "code_of", sCodeOf, .plain⟩, ⟨("rows_code", none), "rows_code", "rows_code", sRowsCode, .plain⟩, ⟨("if_code", none), "if_code", "if_code", sIfCode, .plain⟩]
def fnL1 : List HK.FD := [⟨("is_future", none), "is_future", "is_future", sIsFut, .plain⟩, ⟨("worth_of", none), "worth_of", "worth_of", sWorthOf, .plain⟩, ⟨("path_of", none), "path_of", "path_of", sPathOf, .plain⟩, ⟨("reckon", none), "reckon", "reckon", sReckon, .plain⟩, ⟨("reckon_number", none), "reckon_number", "reckon_number", sReckonN, .plain⟩, ⟨("as_number", none), "as_number", "as_number", sAsNum, .plain⟩, ⟨("operate", none), "operate", "operate", sOperate, .plain⟩, ⟨("combine", none), "combine", "combine", sCombine, .plain⟩, ⟨("Frame", some "__init__"), "__init__", "Frame.__init__", sFrameInit, .kw⟩, ⟨("Task", some "__init__"), "__init__", "Task.__init__", sTaskInit, .plain⟩, ⟨("frame_of_work", none), "frame_of_work", "frame_of_work", sFrameOf, .kw⟩, ⟨("room_of", none), "room_of", "room_of", sRoomOf, .plain⟩, ⟨("next_row", none), "next_row", "next_row", sNextRow, .plain⟩, ⟨("waited_path", none), "waited_path", "waited_path", sWaited, .plain⟩, ⟨("do_step", none), "do_step", "do_step", sStep, .plain⟩, ⟨("try_row", none), "try_row", "try_row", sTryRow, .plain⟩, ⟨("do_row", none), "do_row", "do_row", sDoRow, .plain⟩, ⟨("start_task", none), "start_task", "start_task", sStart, .plain⟩, ⟨("call_work", none), "call_work", "call_work", sCallW, .plain⟩, ⟨("begun_frame", none), "begun_frame", "begun_frame", sBegun, .kw⟩, ⟨("handed_on", none), "handed_on", "handed_on", sHandedOn, .plain⟩, ⟨("give", none), "give", "give", sGive, .plain⟩, ⟨("wait_worth", none), "wait_worth", "wait_worth", sWaitW, .plain⟩, ⟨("name_and_move", none), "name_and_move", "name_and_move", sNameMove, .plain⟩, ⟨("move", none), "move", "move", sMove, .plain⟩]
def fnL2 : List HK.FD := [⟨("serial", none), "serial", "serial", sSerial, .kw⟩, ⟨("Run", some "__init__"), "__init__", "Run.__init__", sRunInit, .plain⟩, ⟨("Run", some "ends"), "ends", "Run.ends", sEnds, .plain⟩, ⟨("first_task", none), "first_task", "first_task", sFirst, .plain⟩, ⟨("are_numbers", none), "are_numbers", "are_numbers", sAreNums, .plain⟩, ⟨("walk", none), "walk", "walk", sWalk, .plain⟩, ⟨("most_taken", none), "most_taken", "most_taken", sMostT, .plain⟩, ⟨("_law_bag", none), "_law_bag", "_law_bag", sBag, .plain⟩, ⟨("_law_take", none), "_law_take", "_law_take", sTake, .plain⟩, ⟨("_law_kept", none), "_law_kept", "_law_kept", sKept, .plain⟩, ⟨("_law_names", none), "_law_names", "_law_names", sNames, .plain⟩, ⟨("_law_number", none), "_law_number", "_law_number", sNumber, .plain⟩, ⟨("_law_tree", none), "_law_tree", "_law_tree", sTree, .plain⟩, ⟨("_law_args", none), "_law_args", "_law_args", sArgs, .plain⟩, ⟨("_law_value", none), "_law_value", "_law_value", sValue, .plain⟩, ⟨("_law_told", none), "_law_told", "_law_told", sTold, .plain⟩, ⟨("_law_is_right", none), "_law_is_right", "_law_is_right", sRight, .plain⟩, ⟨("_law_edge", none), "_law_edge", "_law_edge", sEdge, .plain⟩, ⟨("law", none), "law", "law", sLaw, .plain⟩, ⟨("Missing", some "__init__"), "__init__", "Missing.__init__", (inClass (topS 4) 0), .sup⟩, ⟨("Broken", some "__init__"), "__init__", "Broken.__init__", (inClass (topS 6) 0), .sup⟩, ⟨("Spent", some "__init__"), "__init__", "Spent.__init__", (inClass (topS 5) 0), .sup⟩]
def fnL : List HK.FD := fnL0 ++ fnL1 ++ fnL2
def nmL0 : List PySem.Str := ["StealError", "BadTree", "BadArgs", "Missing", "Spent", "Broken", "BLANKS", "BINDING", "COMPARISON_BINDING", "LEAF_BINDING", "show_expression", "binding_of", "show_left", "show_right", "show_part", "show_work", "rows_lines", "row_lines", "if_lines", "show_row", "show_wait", "show_start", "MOST_WORKS", "MOST_ROWS", "MOST_NAMES"]
def nmL1 : List PySem.Str := ["MOST_EXPRESSIONS", "MOST_IFS", "MOST_DEPTH", "MOST_LETTERS", "MOST_ROOM", "MOST_NUMBER", "LETTERS", "WORDS", "SIGNS", "NO_ROWS", "check_work", "is_work", "is_tuple_of", "is_whole", "is_whole_within", "is_name", "are_names", "is_expression", "is_leaf", "are_expressions", "rows_left", "row_left", "branches_left", "is_if_head", "is_plain_row"]
def nmL2 : List PySem.Str := ["check_works", "check_starts", "handed_counts", "check_start", "starts_in", "Book", "code_of", "rows_code", "if_code", "NO_WORTH", "NO_NUMBER", "NO_FUTURE", "TOO_GREAT", "TOO_DEEP", "is_future", "worth_of", "path_of", "reckon", "reckon_number", "as_number", "operate", "combine", "DEEPEST_FRAME", "CHANGE", "Frame"]
def nmL3 : List PySem.Str := ["Task", "frame_of_work", "room_of", "next_row", "waited_path", "do_step", "try_row", "do_row", "start_task", "call_work", "begun_frame", "handed_on", "give", "wait_worth", "name_and_move", "move", "BUDGET", "serial", "Run", "first_task", "are_numbers", "walk", "most_taken", "_law_bag", "_law_take"]
def nmL4 : List PySem.Str := ["_law_kept", "_law_names", "_law_number", "_law_tree", "_law_args", "_law_value", "_law_plain_value", "_law_told", "_law_is_right", "_law_edge"]
def nmL : List PySem.Str := nmL0 ++ nmL1 ++ nmL2 ++ nmL3 ++ nmL4
theorem facts {w : World} {K : PySem.W.Frag} {h : Heap} {mg : Str → Option Value} {fa : Addr} (X : K.In h) (G : h.Ns mainGlobals mg) (hfa : mg "law" = some (.ref fa)) (c : HK.Says faL fnL K) :
    ∃ fd : FuncData, (∀ (s : Shared) (v : Value), BindsTo s fd ⟨[v], []⟩ [("_law_script", v)]) ∧ ∀ base : Heap, K.In base → base.Ns mainGlobals mg → FnG PySem.Challenge.rw_stealhall_k15_numbers_reckoned.prog w K mg base 30 fa fd ["_law_script"] (spLaw K) := by
  obtain ⟨oc_check_work, od_check_work, sl_check_work, kV_check_work, dc_check_work, pm_check_work, an_check_work, cd_check_work, ct_check_work, l_check_work, c_check_work, k_check_work⟩ := c.plain 0 (p := ("check_work", none)) (x := "check_work") (y := "check_work") (st := sChkWork) (by rfl)
  obtain ⟨oc_is_work, od_is_work, sl_is_work, kV_is_work, dc_is_work, pm_is_work, an_is_work, cd_is_work, ct_is_work, l_is_work, c_is_work, k_is_work⟩ := c.plain 1 (p := ("is_work", none)) (x := "is_work") (y := "is_work") (st := sIsWork) (by rfl)
  obtain ⟨oc_is_tuple_of, od_is_tuple_of, sl_is_tuple_of, kV_is_tuple_of, dc_is_tuple_of, pm_is_tuple_of, an_is_tuple_of, cd_is_tuple_of, ct_is_tuple_of, l_is_tuple_of, c_is_tuple_of, k_is_tuple_of⟩ := c.plain 2 (p := ("is_tuple_of", none)) (x := "is_tuple_of") (y := "is_tuple_of") (st := sTupOf) (by rfl)
  obtain ⟨oc_is_whole, od_is_whole, sl_is_whole, kV_is_whole, dc_is_whole, pm_is_whole, an_is_whole, cd_is_whole, ct_is_whole, l_is_whole, c_is_whole, k_is_whole⟩ := c.plain 3 (p := ("is_whole", none)) (x := "is_whole") (y := "is_whole") (st := sWhole) (by rfl)
  obtain ⟨oc_is_whole_within, od_is_whole_within, sl_is_whole_within, kV_is_whole_within, dc_is_whole_within, pm_is_whole_within, an_is_whole_within, cd_is_whole_within, ct_is_whole_within, l_is_whole_within, c_is_whole_within, k_is_whole_within⟩ := c.plain 4 (p := ("is_whole_within", none)) (x := "is_whole_within") (y := "is_whole_within") (st := sWithin) (by rfl)
  obtain ⟨oc_is_name, od_is_name, sl_is_name, kV_is_name, dc_is_name, pm_is_name, an_is_name, cd_is_name, ct_is_name, l_is_name, c_is_name, k_is_name⟩ := c.plain 5 (p := ("is_name", none)) (x := "is_name") (y := "is_name") (st := sIsName) (by rfl)
  obtain ⟨oc_are_names, od_are_names, sl_are_names, kV_are_names, dc_are_names, pm_are_names, an_are_names, cd_are_names, ct_are_names, l_are_names, c_are_names, k_are_names⟩ := c.plain 6 (p := ("are_names", none)) (x := "are_names") (y := "are_names") (st := sAreNames) (by rfl)
  obtain ⟨oc_is_expression, od_is_expression, sl_is_expression, kV_is_expression, dc_is_expression, pm_is_expression, an_is_expression, cd_is_expression, ct_is_expression, l_is_expression, c_is_expression, k_is_expression⟩ := c.dfl 7 (p := ("is_expression", none)) (x := "is_expression") (y := "is_expression") (st := sIsEx) (by rfl)
  obtain ⟨oc_is_leaf, od_is_leaf, sl_is_leaf, kV_is_leaf, dc_is_leaf, pm_is_leaf, an_is_leaf, cd_is_leaf, ct_is_leaf, l_is_leaf, c_is_leaf, k_is_leaf⟩ := c.plain 8 (p := ("is_leaf", none)) (x := "is_leaf") (y := "is_leaf") (st := sLeaf) (by rfl)
  obtain ⟨oc_are_expressions, od_are_expressions, sl_are_expressions, kV_are_expressions, dc_are_expressions, pm_are_expressions, an_are_expressions, cd_are_expressions, ct_are_expressions, l_are_expressions, c_are_expressions, k_are_expressions⟩ := c.plain 9 (p := ("are_expressions", none)) (x := "are_expressions") (y := "are_expressions") (st := sAreEx) (by rfl)
  obtain ⟨oc_rows_left, od_rows_left, sl_rows_left, kV_rows_left, dc_rows_left, pm_rows_left, an_rows_left, cd_rows_left, ct_rows_left, l_rows_left, c_rows_left, k_rows_left⟩ := c.plain 10 (p := ("rows_left", none)) (x := "rows_left") (y := "rows_left") (st := sRowsL) (by rfl)
  obtain ⟨oc_row_left, od_row_left, sl_row_left, kV_row_left, dc_row_left, pm_row_left, an_row_left, cd_row_left, ct_row_left, l_row_left, c_row_left, k_row_left⟩ := c.plain 11 (p := ("row_left", none)) (x := "row_left") (y := "row_left") (st := sRowL) (by rfl)
  obtain ⟨oc_branches_left, od_branches_left, sl_branches_left, kV_branches_left, dc_branches_left, pm_branches_left, an_branches_left, cd_branches_left, ct_branches_left, l_branches_left, c_branches_left, k_branches_left⟩ := c.plain 12 (p := ("branches_left", none)) (x := "branches_left") (y := "branches_left") (st := sBranL) (by rfl)
  obtain ⟨oc_is_if_head, od_is_if_head, sl_is_if_head, kV_is_if_head, dc_is_if_head, pm_is_if_head, an_is_if_head, cd_is_if_head, ct_is_if_head, l_is_if_head, c_is_if_head, k_is_if_head⟩ := c.plain 13 (p := ("is_if_head", none)) (x := "is_if_head") (y := "is_if_head") (st := sIfHead) (by rfl)
  obtain ⟨oc_is_plain_row, od_is_plain_row, sl_is_plain_row, kV_is_plain_row, dc_is_plain_row, pm_is_plain_row, an_is_plain_row, cd_is_plain_row, ct_is_plain_row, l_is_plain_row, c_is_plain_row, k_is_plain_row⟩ := c.plain 14 (p := ("is_plain_row", none)) (x := "is_plain_row") (y := "is_plain_row") (st := sPlain) (by rfl)
  obtain ⟨oc_check_works, od_check_works, sl_check_works, kV_check_works, dc_check_works, pm_check_works, an_check_works, cd_check_works, ct_check_works, l_check_works, c_check_works, k_check_works⟩ := c.plain 15 (p := ("check_works", none)) (x := "check_works") (y := "check_works") (st := sChkWorks) (by rfl)
  obtain ⟨oc_check_starts, od_check_starts, sl_check_starts, kV_check_starts, dc_check_starts, pm_check_starts, an_check_starts, cd_check_starts, ct_check_starts, l_check_starts, c_check_starts, k_check_starts⟩ := c.plain 16 (p := ("check_starts", none)) (x := "check_starts") (y := "check_starts") (st := sChkStarts) (by rfl)
  obtain ⟨oc_handed_counts, od_handed_counts, sl_handed_counts, kV_handed_counts, dc_handed_counts, pm_handed_counts, an_handed_counts, cd_handed_counts, ct_handed_counts, l_handed_counts, c_handed_counts, k_handed_counts⟩ := c.plain 17 (p := ("handed_counts", none)) (x := "handed_counts") (y := "handed_counts") (st := sHanded) (by rfl)
  obtain ⟨oc_check_start, od_check_start, sl_check_start, kV_check_start, dc_check_start, pm_check_start, an_check_start, cd_check_start, ct_check_start, l_check_start, c_check_start, k_check_start⟩ := c.plain 18 (p := ("check_start", none)) (x := "check_start") (y := "check_start") (st := sChkStart) (by rfl)
  obtain ⟨oc_starts_in, od_starts_in, sl_starts_in, kV_starts_in, dc_starts_in, pm_starts_in, an_starts_in, cd_starts_in, ct_starts_in, l_starts_in, c_starts_in, k_starts_in⟩ := c.plain 19 (p := ("starts_in", none)) (x := "starts_in") (y := "starts_in") (st := sStartsIn) (by rfl)
  obtain ⟨oc_Book___init__, od_Book___init__, sl_Book___init__, kV_Book___init__, dc_Book___init__, pm_Book___init__, an_Book___init__, cd_Book___init__, ct_Book___init__, l_Book___init__, c_Book___init__, k_Book___init__⟩ := c.plain 20 (p := ("Book", some "__init__")) (x := "__init__") (y := "Book.__init__") (st := sBookInit) (by rfl)
  obtain ⟨oc_Book_tree, od_Book_tree, sl_Book_tree, kV_Book_tree, dc_Book_tree, pm_Book_tree, an_Book_tree, cd_Book_tree, ct_Book_tree, l_Book_tree, c_Book_tree, k_Book_tree⟩ := c.plain 21 (p := ("Book", some "tree")) (x := "tree") (y := "Book.tree") (st := sBookTree) (by rfl)
  obtain ⟨oc_code_of, od_code_of, sl_code_of, kV_code_of, dc_code_of, pm_code_of, an_code_of, cd_code_of, ct_code_of, l_code_of, c_code_of, k_code_of⟩ := c.plain 22 (p := ("code_of", none)) (x := "code_of") (y := "code_of") (st := sCodeOf) (by rfl)
  obtain ⟨oc_rows_code, od_rows_code, sl_rows_code, kV_rows_code, dc_rows_code, pm_rows_code, an_rows_code, cd_rows_code, ct_rows_code, l_rows_code, c_rows_code, k_rows_code⟩ := c.plain 23 (p := ("rows_code", none)) (x := "rows_code") (y := "rows_code") (st := sRowsCode) (by rfl)
  obtain ⟨oc_if_code, od_if_code, sl_if_code, kV_if_code, dc_if_code, pm_if_code, an_if_code, cd_if_code, ct_if_code, l_if_code, c_if_code, k_if_code⟩ := c.plain 24 (p := ("if_code", none)) (x := "if_code") (y := "if_code") (st := sIfCode) (by rfl)
  obtain ⟨oc_is_future, od_is_future, sl_is_future, kV_is_future, dc_is_future, pm_is_future, an_is_future, cd_is_future, ct_is_future, l_is_future, c_is_future, k_is_future⟩ := c.plain 25 (p := ("is_future", none)) (x := "is_future") (y := "is_future") (st := sIsFut) (by rfl)
  obtain ⟨oc_worth_of, od_worth_of, sl_worth_of, kV_worth_of, dc_worth_of, pm_worth_of, an_worth_of, cd_worth_of, ct_worth_of, l_worth_of, c_worth_of, k_worth_of⟩ := c.plain 26 (p := ("worth_of", none)) (x := "worth_of") (y := "worth_of") (st := sWorthOf) (by rfl)
  obtain ⟨oc_path_of, od_path_of, sl_path_of, kV_path_of, dc_path_of, pm_path_of, an_path_of, cd_path_of, ct_path_of, l_path_of, c_path_of, k_path_of⟩ := c.plain 27 (p := ("path_of", none)) (x := "path_of") (y := "path_of") (st := sPathOf) (by rfl)
  obtain ⟨oc_reckon, od_reckon, sl_reckon, kV_reckon, dc_reckon, pm_reckon, an_reckon, cd_reckon, ct_reckon, l_reckon, c_reckon, k_reckon⟩ := c.plain 28 (p := ("reckon", none)) (x := "reckon") (y := "reckon") (st := sReckon) (by rfl)
  obtain ⟨oc_reckon_number, od_reckon_number, sl_reckon_number, kV_reckon_number, dc_reckon_number, pm_reckon_number, an_reckon_number, cd_reckon_number, ct_reckon_number, l_reckon_number, c_reckon_number, k_reckon_number⟩ := c.plain 29 (p := ("reckon_number", none)) (x := "reckon_number") (y := "reckon_number") (st := sReckonN) (by rfl)
  obtain ⟨oc_as_number, od_as_number, sl_as_number, kV_as_number, dc_as_number, pm_as_number, an_as_number, cd_as_number, ct_as_number, l_as_number, c_as_number, k_as_number⟩ := c.plain 30 (p := ("as_number", none)) (x := "as_number") (y := "as_number") (st := sAsNum) (by rfl)
  obtain ⟨oc_operate, od_operate, sl_operate, kV_operate, dc_operate, pm_operate, an_operate, cd_operate, ct_operate, l_operate, c_operate, k_operate⟩ := c.plain 31 (p := ("operate", none)) (x := "operate") (y := "operate") (st := sOperate) (by rfl)
  obtain ⟨oc_combine, od_combine, sl_combine, kV_combine, dc_combine, pm_combine, an_combine, cd_combine, ct_combine, l_combine, c_combine, k_combine⟩ := c.plain 32 (p := ("combine", none)) (x := "combine") (y := "combine") (st := sCombine) (by rfl)
  obtain ⟨oc_Frame___init__, od_Frame___init__, sl_Frame___init__, dc_Frame___init__, pm_Frame___init__, an_Frame___init__, cd_Frame___init__, ct_Frame___init__, l_Frame___init__, c_Frame___init__, k_Frame___init__⟩ := c.kw 33 (p := ("Frame", some "__init__")) (x := "__init__") (y := "Frame.__init__") (st := sFrameInit) (by rfl)
  obtain ⟨oc_Task___init__, od_Task___init__, sl_Task___init__, kV_Task___init__, dc_Task___init__, pm_Task___init__, an_Task___init__, cd_Task___init__, ct_Task___init__, l_Task___init__, c_Task___init__, k_Task___init__⟩ := c.plain 34 (p := ("Task", some "__init__")) (x := "__init__") (y := "Task.__init__") (st := sTaskInit) (by rfl)
  obtain ⟨oc_frame_of_work, od_frame_of_work, sl_frame_of_work, dc_frame_of_work, pm_frame_of_work, an_frame_of_work, cd_frame_of_work, ct_frame_of_work, l_frame_of_work, c_frame_of_work, k_frame_of_work⟩ := c.kw 35 (p := ("frame_of_work", none)) (x := "frame_of_work") (y := "frame_of_work") (st := sFrameOf) (by rfl)
  obtain ⟨oc_room_of, od_room_of, sl_room_of, kV_room_of, dc_room_of, pm_room_of, an_room_of, cd_room_of, ct_room_of, l_room_of, c_room_of, k_room_of⟩ := c.plain 36 (p := ("room_of", none)) (x := "room_of") (y := "room_of") (st := sRoomOf) (by rfl)
  obtain ⟨oc_next_row, od_next_row, sl_next_row, kV_next_row, dc_next_row, pm_next_row, an_next_row, cd_next_row, ct_next_row, l_next_row, c_next_row, k_next_row⟩ := c.plain 37 (p := ("next_row", none)) (x := "next_row") (y := "next_row") (st := sNextRow) (by rfl)
  obtain ⟨oc_waited_path, od_waited_path, sl_waited_path, kV_waited_path, dc_waited_path, pm_waited_path, an_waited_path, cd_waited_path, ct_waited_path, l_waited_path, c_waited_path, k_waited_path⟩ := c.plain 38 (p := ("waited_path", none)) (x := "waited_path") (y := "waited_path") (st := sWaited) (by rfl)
  obtain ⟨oc_do_step, od_do_step, sl_do_step, kV_do_step, dc_do_step, pm_do_step, an_do_step, cd_do_step, ct_do_step, l_do_step, c_do_step, k_do_step⟩ := c.plain 39 (p := ("do_step", none)) (x := "do_step") (y := "do_step") (st := sStep) (by rfl)
  obtain ⟨oc_try_row, od_try_row, sl_try_row, kV_try_row, dc_try_row, pm_try_row, an_try_row, cd_try_row, ct_try_row, l_try_row, c_try_row, k_try_row⟩ := c.plain 40 (p := ("try_row", none)) (x := "try_row") (y := "try_row") (st := sTryRow) (by rfl)
  obtain ⟨oc_do_row, od_do_row, sl_do_row, kV_do_row, dc_do_row, pm_do_row, an_do_row, cd_do_row, ct_do_row, l_do_row, c_do_row, k_do_row⟩ := c.plain 41 (p := ("do_row", none)) (x := "do_row") (y := "do_row") (st := sDoRow) (by rfl)
  obtain ⟨oc_start_task, od_start_task, sl_start_task, kV_start_task, dc_start_task, pm_start_task, an_start_task, cd_start_task, ct_start_task, l_start_task, c_start_task, k_start_task⟩ := c.plain 42 (p := ("start_task", none)) (x := "start_task") (y := "start_task") (st := sStart) (by rfl)
  obtain ⟨oc_call_work, od_call_work, sl_call_work, kV_call_work, dc_call_work, pm_call_work, an_call_work, cd_call_work, ct_call_work, l_call_work, c_call_work, k_call_work⟩ := c.plain 43 (p := ("call_work", none)) (x := "call_work") (y := "call_work") (st := sCallW) (by rfl)
  obtain ⟨oc_begun_frame, od_begun_frame, sl_begun_frame, dc_begun_frame, pm_begun_frame, an_begun_frame, cd_begun_frame, ct_begun_frame, l_begun_frame, c_begun_frame, k_begun_frame⟩ := c.kw 44 (p := ("begun_frame", none)) (x := "begun_frame") (y := "begun_frame") (st := sBegun) (by rfl)
  obtain ⟨oc_handed_on, od_handed_on, sl_handed_on, kV_handed_on, dc_handed_on, pm_handed_on, an_handed_on, cd_handed_on, ct_handed_on, l_handed_on, c_handed_on, k_handed_on⟩ := c.plain 45 (p := ("handed_on", none)) (x := "handed_on") (y := "handed_on") (st := sHandedOn) (by rfl)
  obtain ⟨oc_give, od_give, sl_give, kV_give, dc_give, pm_give, an_give, cd_give, ct_give, l_give, c_give, k_give⟩ := c.plain 46 (p := ("give", none)) (x := "give") (y := "give") (st := sGive) (by rfl)
  obtain ⟨oc_wait_worth, od_wait_worth, sl_wait_worth, kV_wait_worth, dc_wait_worth, pm_wait_worth, an_wait_worth, cd_wait_worth, ct_wait_worth, l_wait_worth, c_wait_worth, k_wait_worth⟩ := c.plain 47 (p := ("wait_worth", none)) (x := "wait_worth") (y := "wait_worth") (st := sWaitW) (by rfl)
  obtain ⟨oc_name_and_move, od_name_and_move, sl_name_and_move, kV_name_and_move, dc_name_and_move, pm_name_and_move, an_name_and_move, cd_name_and_move, ct_name_and_move, l_name_and_move, c_name_and_move, k_name_and_move⟩ := c.plain 48 (p := ("name_and_move", none)) (x := "name_and_move") (y := "name_and_move") (st := sNameMove) (by rfl)
  obtain ⟨oc_move, od_move, sl_move, kV_move, dc_move, pm_move, an_move, cd_move, ct_move, l_move, c_move, k_move⟩ := c.plain 49 (p := ("move", none)) (x := "move") (y := "move") (st := sMove) (by rfl)
  obtain ⟨oc_serial, od_serial, sl_serial, dc_serial, pm_serial, an_serial, cd_serial, ct_serial, l_serial, c_serial, k_serial⟩ := c.kw 50 (p := ("serial", none)) (x := "serial") (y := "serial") (st := sSerial) (by rfl)
  obtain ⟨oc_Run___init__, od_Run___init__, sl_Run___init__, kV_Run___init__, dc_Run___init__, pm_Run___init__, an_Run___init__, cd_Run___init__, ct_Run___init__, l_Run___init__, c_Run___init__, k_Run___init__⟩ := c.plain 51 (p := ("Run", some "__init__")) (x := "__init__") (y := "Run.__init__") (st := sRunInit) (by rfl)
  obtain ⟨oc_Run_ends, od_Run_ends, sl_Run_ends, kV_Run_ends, dc_Run_ends, pm_Run_ends, an_Run_ends, cd_Run_ends, ct_Run_ends, l_Run_ends, c_Run_ends, k_Run_ends⟩ := c.plain 52 (p := ("Run", some "ends")) (x := "ends") (y := "Run.ends") (st := sEnds) (by rfl)
  obtain ⟨oc_first_task, od_first_task, sl_first_task, kV_first_task, dc_first_task, pm_first_task, an_first_task, cd_first_task, ct_first_task, l_first_task, c_first_task, k_first_task⟩ := c.plain 53 (p := ("first_task", none)) (x := "first_task") (y := "first_task") (st := sFirst) (by rfl)
  obtain ⟨oc_are_numbers, od_are_numbers, sl_are_numbers, kV_are_numbers, dc_are_numbers, pm_are_numbers, an_are_numbers, cd_are_numbers, ct_are_numbers, l_are_numbers, c_are_numbers, k_are_numbers⟩ := c.plain 54 (p := ("are_numbers", none)) (x := "are_numbers") (y := "are_numbers") (st := sAreNums) (by rfl)
  obtain ⟨oc_walk, od_walk, sl_walk, kV_walk, dc_walk, pm_walk, an_walk, cd_walk, ct_walk, l_walk, c_walk, k_walk⟩ := c.plain 55 (p := ("walk", none)) (x := "walk") (y := "walk") (st := sWalk) (by rfl)
  obtain ⟨oc_most_taken, od_most_taken, sl_most_taken, kV_most_taken, dc_most_taken, pm_most_taken, an_most_taken, cd_most_taken, ct_most_taken, l_most_taken, c_most_taken, k_most_taken⟩ := c.plain 56 (p := ("most_taken", none)) (x := "most_taken") (y := "most_taken") (st := sMostT) (by rfl)
  obtain ⟨oc_Lbag, od_Lbag, sl_Lbag, kV_Lbag, dc_Lbag, pm_Lbag, an_Lbag, cd_Lbag, ct_Lbag, l_Lbag, c_Lbag, k_Lbag⟩ := c.plain 57 (p := ("_law_bag", none)) (x := "_law_bag") (y := "_law_bag") (st := sBag) (by rfl)
  obtain ⟨oc_Ltake, od_Ltake, sl_Ltake, kV_Ltake, dc_Ltake, pm_Ltake, an_Ltake, cd_Ltake, ct_Ltake, l_Ltake, c_Ltake, k_Ltake⟩ := c.plain 58 (p := ("_law_take", none)) (x := "_law_take") (y := "_law_take") (st := sTake) (by rfl)
  obtain ⟨oc_Lkept, od_Lkept, sl_Lkept, kV_Lkept, dc_Lkept, pm_Lkept, an_Lkept, cd_Lkept, ct_Lkept, l_Lkept, c_Lkept, k_Lkept⟩ := c.plain 59 (p := ("_law_kept", none)) (x := "_law_kept") (y := "_law_kept") (st := sKept) (by rfl)
  obtain ⟨oc_Lnames, od_Lnames, sl_Lnames, kV_Lnames, dc_Lnames, pm_Lnames, an_Lnames, cd_Lnames, ct_Lnames, l_Lnames, c_Lnames, k_Lnames⟩ := c.plain 60 (p := ("_law_names", none)) (x := "_law_names") (y := "_law_names") (st := sNames) (by rfl)
  obtain ⟨oc_Lnumber, od_Lnumber, sl_Lnumber, kV_Lnumber, dc_Lnumber, pm_Lnumber, an_Lnumber, cd_Lnumber, ct_Lnumber, l_Lnumber, c_Lnumber, k_Lnumber⟩ := c.plain 61 (p := ("_law_number", none)) (x := "_law_number") (y := "_law_number") (st := sNumber) (by rfl)
  obtain ⟨oc_Ltree, od_Ltree, sl_Ltree, kV_Ltree, dc_Ltree, pm_Ltree, an_Ltree, cd_Ltree, ct_Ltree, l_Ltree, c_Ltree, k_Ltree⟩ := c.plain 62 (p := ("_law_tree", none)) (x := "_law_tree") (y := "_law_tree") (st := sTree) (by rfl)
  obtain ⟨oc_Largs, od_Largs, sl_Largs, kV_Largs, dc_Largs, pm_Largs, an_Largs, cd_Largs, ct_Largs, l_Largs, c_Largs, k_Largs⟩ := c.plain 63 (p := ("_law_args", none)) (x := "_law_args") (y := "_law_args") (st := sArgs) (by rfl)
  obtain ⟨oc_Lvalue, od_Lvalue, sl_Lvalue, kV_Lvalue, dc_Lvalue, pm_Lvalue, an_Lvalue, cd_Lvalue, ct_Lvalue, l_Lvalue, c_Lvalue, k_Lvalue⟩ := c.plain 64 (p := ("_law_value", none)) (x := "_law_value") (y := "_law_value") (st := sValue) (by rfl)
  obtain ⟨oc_Ltold, od_Ltold, sl_Ltold, kV_Ltold, dc_Ltold, pm_Ltold, an_Ltold, cd_Ltold, ct_Ltold, l_Ltold, c_Ltold, k_Ltold⟩ := c.plain 65 (p := ("_law_told", none)) (x := "_law_told") (y := "_law_told") (st := sTold) (by rfl)
  obtain ⟨oc_Lis_right, od_Lis_right, sl_Lis_right, kV_Lis_right, dc_Lis_right, pm_Lis_right, an_Lis_right, cd_Lis_right, ct_Lis_right, l_Lis_right, c_Lis_right, k_Lis_right⟩ := c.plain 66 (p := ("_law_is_right", none)) (x := "_law_is_right") (y := "_law_is_right") (st := sRight) (by rfl)
  obtain ⟨oc_Ledge, od_Ledge, sl_Ledge, kV_Ledge, dc_Ledge, pm_Ledge, an_Ledge, cd_Ledge, ct_Ledge, l_Ledge, c_Ledge, k_Ledge⟩ := c.plain 67 (p := ("_law_edge", none)) (x := "_law_edge") (y := "_law_edge") (st := sEdge) (by rfl)
  obtain ⟨oc_law, od_law, sl_law, kV_law, dc_law, pm_law, an_law, cd_law, ct_law, l_law, c_law, k_law⟩ := c.plain 68 (p := ("law", none)) (x := "law") (y := "law") (st := sLaw) (by rfl)
  obtain ⟨Xmoc, Xmod_, Xmosl, XmkV, Xmdoc, Xmpm, Xman, Xmct, Xmfn, Xmcd, Xmkk⟩ := c.sup 69 (p := ("Missing", some "__init__")) (x := "__init__") (y := "Missing.__init__") (st := (inClass (topS 4) 0)) (by rfl)
  obtain ⟨Xboc, Xbod_, Xbosl, XbkV, Xbdoc, Xbpm, Xban, Xbct, Xbfn, Xbcd, Xbkk⟩ := c.sup 70 (p := ("Broken", some "__init__")) (x := "__init__") (y := "Broken.__init__") (st := (inClass (topS 6) 0)) (by rfl)
  obtain ⟨Xsoc, Xsod_, Xsosl, XskV, Xsdoc, Xspm, Xsan, Xsct, Xsfn, Xscd, Xskk⟩ := c.sup 71 (p := ("Spent", some "__init__")) (x := "__init__") (y := "Spent.__init__") (st := (inClass (topS 5) 0)) (by rfl)
  obtain ⟨tLt, gLt⟩ := HK.strAt_ok (c.fact 0 (f := fa_0) (by rfl))
  obtain ⟨t_MOST_WORKS, g_MOST_WORKS⟩ := HK.intAt_ok (c.fact 1 (f := fa_1) (by rfl))
  obtain ⟨t_MOST_ROWS, g_MOST_ROWS⟩ := HK.intAt_ok (c.fact 2 (f := fa_2) (by rfl))
  obtain ⟨t_MOST_NAMES, g_MOST_NAMES⟩ := HK.intAt_ok (c.fact 3 (f := fa_3) (by rfl))
  obtain ⟨t_MOST_EXPRESSIONS, g_MOST_EXPRESSIONS⟩ := HK.intAt_ok (c.fact 4 (f := fa_4) (by rfl))
  obtain ⟨t_MOST_IFS, g_MOST_IFS⟩ := HK.intAt_ok (c.fact 5 (f := fa_5) (by rfl))
  obtain ⟨t_MOST_LETTERS, g_MOST_LETTERS⟩ := HK.intAt_ok (c.fact 6 (f := fa_6) (by rfl))
  obtain ⟨t_MOST_ROOM, g_MOST_ROOM⟩ := HK.intAt_ok (c.fact 7 (f := fa_7) (by rfl))
  obtain ⟨t_MOST_NUMBER, g_MOST_NUMBER⟩ := HK.intAt_ok (c.fact 8 (f := fa_8) (by rfl))
  obtain ⟨t_NO_ROWS, g_NO_ROWS⟩ := HK.intAt_ok (c.fact 9 (f := fa_9) (by rfl))
  obtain ⟨t_NO_WORTH, g_NO_WORTH⟩ := HK.intAt_ok (c.fact 10 (f := fa_10) (by rfl))
  obtain ⟨t_NO_NUMBER, g_NO_NUMBER⟩ := HK.intAt_ok (c.fact 11 (f := fa_11) (by rfl))
  obtain ⟨t_NO_FUTURE, g_NO_FUTURE⟩ := HK.intAt_ok (c.fact 12 (f := fa_12) (by rfl))
  obtain ⟨t_TOO_GREAT, g_TOO_GREAT⟩ := HK.intAt_ok (c.fact 13 (f := fa_13) (by rfl))
  obtain ⟨t_TOO_DEEP, g_TOO_DEEP⟩ := HK.intAt_ok (c.fact 14 (f := fa_14) (by rfl))
  obtain ⟨t_DEEPEST_FRAME, g_DEEPEST_FRAME⟩ := HK.intAt_ok (c.fact 15 (f := fa_15) (by rfl))
  obtain ⟨t_CHANGE, g_CHANGE⟩ := HK.intAt_ok (c.fact 16 (f := fa_16) (by rfl))
  obtain ⟨dW, iW, nW, sW, lW, vW⟩ := HK.tupAt_ok (c.fact 17 (f := fa_17) (by rfl))
  obtain ⟨dS, iS, nS, sS, lS, vS⟩ := HK.tupAt_ok (c.fact 18 (f := fa_18) (by rfl))
  obtain ⟨oTD, iTD, nTD, lTD, oTD0, vTD⟩ := HK.seqAt_ok (c.fact 19 (f := fa_19) (by rfl))
  obtain ⟨tk1, kdW1⟩ := HK.intAt_ok (c.fact 20 (f := fa_20) (by rfl))
  obtain ⟨tk2, kdW2⟩ := HK.intAt_ok (c.fact 21 (f := fa_21) (by rfl))
  obtain ⟨tk3, kdB⟩ := HK.intAt_ok (c.fact 22 (f := fa_22) (by rfl))
  obtain ⟨tk4, kdF⟩ := HK.intAt_ok (c.fact 23 (f := fa_23) (by rfl))
  obtain ⟨tk5, kdS⟩ := HK.intAt_ok (c.fact 24 (f := fa_24) (by rfl))
  obtain ⟨Xmnm, Xmq, XmN, Xmbs, Xmbm, Xmsn, Xmsub, Xmab, Xmcol, Xmdd, Xmk0, Xmk1, Xmk2, Xmk3, Xmk5, Xmcls, Xmbm0⟩ := HK.excAt_ok (c.fact 25 (f := fa_25) (by rfl))
  obtain ⟨Xmccl, Xmcdd, Xmvs, Xmccs, Xmfile, Xmtf, Xmlc, Xmv2, Xmfi⟩ := HK.fileAt_ok (c.fact 26 (f := fa_26) (by rfl))
  obtain ⟨Xmcl, Xmcld, Xmcsl, Xmce⟩ := HK.cellAt_ok (c.fact 27 (f := fa_27) (by rfl))
  obtain ⟨Xbnm, Xbq, XbN, Xbbs, Xbbm, Xbsn, Xbsub, Xbab, Xbcol, Xbdd, Xbk0, Xbk1, Xbk2, Xbk3, Xbk5, Xbcls, Xbbm0⟩ := HK.excAt_ok (c.fact 28 (f := fa_28) (by rfl))
  obtain ⟨Xbccl, Xbcdd, Xbvs, Xbccs, Xbfile, Xbtf, Xblc, Xbv2, Xbfi⟩ := HK.fileAt_ok (c.fact 29 (f := fa_29) (by rfl))
  obtain ⟨Xbcl, Xbcld, Xbcsl, Xbce⟩ := HK.cellAt_ok (c.fact 30 (f := fa_30) (by rfl))
  obtain ⟨Xsnm, Xsq, XsN, Xsbs, Xsbm, Xssn, Xssub, Xsab, Xscol, Xsdd, Xsk0, Xsk1, Xsk2, Xsk3, Xsk5, Xscls, Xsbm0⟩ := HK.excAt_ok (c.fact 31 (f := fa_31) (by rfl))
  obtain ⟨Xsccl, Xscdd, Xsvs, Xsccs, Xsfile, Xstf, Xslc, Xsv2, Xsfi⟩ := HK.fileAt_ok (c.fact 32 (f := fa_32) (by rfl))
  obtain ⟨Xscl, Xscld, Xscsl, Xsce⟩ := HK.cellAt_ok (c.fact 33 (f := fa_33) (by rfl))
  obtain ⟨aC_Book, aC_Frame, aC_Task, aC_Run, a_check_work, a_is_work, a_is_tuple_of, a_is_whole, a_is_whole_within, a_is_name⟩ := of_decide_eq_true (c.fact 34 (f := fa_34) (by rfl))
  obtain ⟨a_are_names, a_is_expression, a_is_leaf, a_are_expressions, a_rows_left, a_row_left, a_branches_left, a_is_if_head, a_is_plain_row, a_check_works⟩ := of_decide_eq_true (c.fact 35 (f := fa_35) (by rfl))
  obtain ⟨a_check_starts, a_handed_counts, a_check_start, a_starts_in, a_Book___init__, i_Book___init__, a_Book_tree, i_Book_tree, a_code_of, a_rows_code⟩ := of_decide_eq_true (c.fact 36 (f := fa_36) (by rfl))
  obtain ⟨a_if_code, a_is_future, a_worth_of, a_path_of, a_reckon, a_reckon_number, a_as_number, a_operate, a_combine, a_Frame___init__⟩ := of_decide_eq_true (c.fact 37 (f := fa_37) (by rfl))
  obtain ⟨i_Frame___init__, a_Task___init__, i_Task___init__, a_frame_of_work, a_room_of, a_next_row, a_waited_path, a_do_step, a_try_row, a_do_row⟩ := of_decide_eq_true (c.fact 38 (f := fa_38) (by rfl))
  obtain ⟨a_start_task, a_call_work, a_begun_frame, a_handed_on, a_give, a_wait_worth, a_name_and_move, a_move, a_serial, a_Run___init__⟩ := of_decide_eq_true (c.fact 39 (f := fa_39) (by rfl))
  obtain ⟨i_Run___init__, a_Run_ends, i_Run_ends, a_first_task, a_are_numbers, a_walk, a_most_taken, a_Lbag, a_Ltake, a_Lkept⟩ := of_decide_eq_true (c.fact 40 (f := fa_40) (by rfl))
  obtain ⟨a_Lnames, a_Lnumber, a_Ltree, a_Largs, a_Lvalue, a_Ltold, a_Lis_right, a_Ledge, a_law, z_len⟩ := of_decide_eq_true (c.fact 41 (f := fa_41) (by rfl))
  obtain ⟨z_abs, z_int, z_str, z_range, z_max, z_min, z_isinstance, z_all, z_tuple, z_bool⟩ := of_decide_eq_true (c.fact 42 (f := fa_42) (by rfl))
  obtain ⟨z_set, z_list, z_repr, z_super, z_zip, z_dict, z_sum, z_sorted, pg_Book, hd_Book⟩ := of_decide_eq_true (c.fact 43 (f := fa_43) (by rfl))
  obtain ⟨po_Book, sa_Book, mk_Book, kc_Book, na_works_Book, pg_Frame, hd_Frame, po_Frame, sa_Frame, mk_Frame⟩ := of_decide_eq_true (c.fact 44 (f := fa_44) (by rfl))
  obtain ⟨kc_Frame, na_code_Frame, na_room_Frame, na_worths_Frame, na_depth_Frame, na_number_Frame, na_place_Frame, pg_Task, hd_Task, po_Task⟩ := of_decide_eq_true (c.fact 45 (f := fa_45) (by rfl))
  obtain ⟨sa_Task, mk_Task, kc_Task, na_path_Task, na_frames_Task, na_frames_begun_Task, na_goes_Task, na_steps_Task, na_result_Task, pg_Run⟩ := of_decide_eq_true (c.fact 46 (f := fa_46) (by rfl))
  obtain ⟨hd_Run, po_Run, sa_Run, mk_Run, kc_Run, na_result_Run, na_count_Run, na_most_Run, na_results_Run, gW⟩ := of_decide_eq_true (c.fact 47 (f := fa_47) (by rfl))
  obtain ⟨gS, aMissing, isMissing, tyMissing, suMissing, sBMissing, Xmal, Xmsa, XmnoF, XmiC⟩ := of_decide_eq_true (c.fact 48 (f := fa_48) (by rfl))
  obtain ⟨XmtC, XmkC, XmexC, Xmop, Xmhd, Xmga, Xmgg, aBroken, isBroken, tyBroken⟩ := of_decide_eq_true (c.fact 49 (f := fa_49) (by rfl))
  obtain ⟨suBroken, sBBroken, Xbal, Xbsa, XbnoF, XbiC, XbtC, XbkC, XbexC, Xbop⟩ := of_decide_eq_true (c.fact 50 (f := fa_50) (by rfl))
  obtain ⟨Xbhd, Xbga, Xbgg, aSpent, isSpent, tySpent, suSpent, sBSpent, Xsal, Xssa⟩ := of_decide_eq_true (c.fact 51 (f := fa_51) (by rfl))
  obtain ⟨XsnoF, XsiC, XstC, XskC, XsexC, Xsop, Xshd, Xsga, Xsgg⟩ := of_decide_eq_true (c.fact 52 (f := fa_52) (by rfl))
  refine' all_mk (l := PySem.Challenge.rw_stealhall_k15_numbers_reckoned) X G hfa aC_Book aC_Frame aC_Task aC_Run a_check_work l_check_work c_check_work k_check_work a_is_work l_is_work c_is_work k_is_work a_is_tuple_of l_is_tuple_of c_is_tuple_of k_is_tuple_of a_is_whole l_is_whole c_is_whole k_is_whole a_is_whole_within l_is_whole_within c_is_whole_within k_is_whole_within a_is_name l_is_name c_is_name k_is_name a_are_names l_are_names c_are_names k_are_names a_is_expression l_is_expression c_is_expression k_is_expression a_is_leaf l_is_leaf c_is_leaf k_is_leaf a_are_expressions l_are_expressions c_are_expressions k_are_expressions a_rows_left l_rows_left c_rows_left k_rows_left a_row_left l_row_left c_row_left k_row_left a_branches_left l_branches_left c_branches_left k_branches_left a_is_if_head l_is_if_head c_is_if_head k_is_if_head a_is_plain_row l_is_plain_row c_is_plain_row k_is_plain_row a_check_works l_check_works c_check_works k_check_works a_check_starts l_check_starts c_check_starts k_check_starts a_handed_counts l_handed_counts c_handed_counts k_handed_counts a_check_start l_check_start c_check_start k_check_start a_starts_in l_starts_in c_starts_in k_starts_in a_Book___init__ l_Book___init__ c_Book___init__ k_Book___init__ i_Book___init__ a_Book_tree l_Book_tree c_Book_tree k_Book_tree i_Book_tree a_code_of l_code_of c_code_of k_code_of a_rows_code l_rows_code c_rows_code k_rows_code a_if_code l_if_code c_if_code k_if_code a_is_future l_is_future c_is_future k_is_future a_worth_of l_worth_of c_worth_of k_worth_of a_path_of l_path_of c_path_of k_path_of a_reckon l_reckon c_reckon k_reckon a_reckon_number l_reckon_number c_reckon_number k_reckon_number a_as_number l_as_number c_as_number k_as_number a_operate l_operate c_operate k_operate a_combine l_combine c_combine k_combine a_Frame___init__ l_Frame___init__ c_Frame___init__ k_Frame___init__ i_Frame___init__ a_Task___init__ l_Task___init__ c_Task___init__ k_Task___init__ i_Task___init__ a_frame_of_work l_frame_of_work c_frame_of_work k_frame_of_work a_room_of l_room_of c_room_of k_room_of a_next_row l_next_row c_next_row k_next_row a_waited_path l_waited_path c_waited_path k_waited_path a_do_step l_do_step c_do_step k_do_step a_try_row l_try_row c_try_row k_try_row a_do_row l_do_row c_do_row k_do_row a_start_task l_start_task c_start_task k_start_task a_call_work l_call_work c_call_work k_call_work a_begun_frame l_begun_frame c_begun_frame k_begun_frame a_handed_on l_handed_on c_handed_on k_handed_on a_give l_give c_give k_give a_wait_worth l_wait_worth c_wait_worth k_wait_worth a_name_and_move l_name_and_move c_name_and_move k_name_and_move a_move l_move c_move k_move a_serial l_serial c_serial k_serial a_Run___init__ l_Run___init__ c_Run___init__ k_Run___init__ i_Run___init__ a_Run_ends l_Run_ends c_Run_ends k_Run_ends i_Run_ends a_first_task l_first_task c_first_task k_first_task a_are_numbers l_are_numbers c_are_numbers k_are_numbers a_walk l_walk c_walk k_walk a_most_taken l_most_taken c_most_taken k_most_taken a_Lbag l_Lbag c_Lbag k_Lbag a_Ltake l_Ltake c_Ltake k_Ltake a_Lkept l_Lkept c_Lkept k_Lkept a_Lnames l_Lnames c_Lnames k_Lnames a_Lnumber l_Lnumber c_Lnumber k_Lnumber a_Ltree l_Ltree c_Ltree k_Ltree a_Largs l_Largs c_Largs k_Largs a_Lvalue l_Lvalue c_Lvalue k_Lvalue a_Ltold l_Ltold c_Ltold k_Ltold a_Lis_right l_Lis_right c_Lis_right k_Lis_right a_Ledge l_Ledge c_Ledge k_Ledge a_law l_law c_law k_law z_len z_abs z_int z_str z_range z_max z_min z_isinstance z_all z_tuple z_bool z_set z_list z_repr z_super z_zip z_dict z_sum z_sorted pg_Book hd_Book po_Book sa_Book mk_Book kc_Book na_works_Book pg_Frame hd_Frame po_Frame sa_Frame mk_Frame kc_Frame na_code_Frame na_room_Frame na_worths_Frame na_depth_Frame na_number_Frame na_place_Frame pg_Task hd_Task po_Task sa_Task mk_Task kc_Task na_path_Task na_frames_Task na_frames_begun_Task na_goes_Task na_steps_Task na_result_Task pg_Run hd_Run po_Run sa_Run mk_Run kc_Run na_result_Run na_count_Run na_most_Run na_results_Run gLt g_MOST_WORKS g_MOST_ROWS g_MOST_NAMES g_MOST_EXPRESSIONS g_MOST_IFS g_MOST_LETTERS g_MOST_ROOM g_MOST_NUMBER g_NO_ROWS g_NO_WORTH g_NO_NUMBER g_NO_FUTURE g_TOO_GREAT g_TOO_DEEP g_DEEPEST_FRAME g_CHANGE gW lW vW gS lS vS lTD oTD0 vTD kdW1 kdW2 kdB kdF kdS aMissing isMissing tyMissing suMissing sBMissing Xmcls Xmbm0 Xmal Xmsa XmnoF XmiC XmtC XmkC XmexC Xmop Xmhd Xmga Xmgg Xmfn Xmcd ?Xmli ?XmlA Xmlc Xmv2 Xmfi Xmce ?Xmtop aBroken isBroken tyBroken suBroken sBBroken Xbcls Xbbm0 Xbal Xbsa XbnoF XbiC XbtC XbkC XbexC Xbop Xbhd Xbga Xbgg Xbfn Xbcd ?Xbli ?XblA Xblc Xbv2 Xbfi Xbce ?Xbtop aSpent isSpent tySpent suSpent sBSpent Xscls Xsbm0 Xsal Xssa XsnoF XsiC XstC XskC XsexC Xsop Xshd Xsga Xsgg Xsfn Xscd ?Xsli ?XslA ?XslB Xslc Xsv2 Xsfi Xsce ?Xstop
  (case Xmli => (first | rfl | decide))
  (case XmlA => decide +kernel)
  (case Xmtop => (first | decide +kernel | rfl))
  (case Xbli => (first | rfl | decide))
  (case XblA => decide +kernel)
  (case Xbtop => (first | decide +kernel | rfl))
  (case Xsli => (first | rfl | decide))
  (case XslA => decide +kernel)
  (case XslB => decide +kernel)
  (case Xstop => (first | decide +kernel | rfl))
abbrev RR : PySem.W.OpenRow := PySem.W.OpenLaw.row PySem.Challenge.rw_stealhall_k15_numbers_reckoned
abbrev qV : Program := PySem.W.view RR.prog [118]
abbrev hK : PySem.W.Hook := HK.hook 4 faL fnL
def oB (s : PySem.W.SharedT) : HK.Al := HK.obsG 4 faL fnL (HandSHeadRun.getT s)
theorem oB_eq (s : PySem.W.SharedT) : oB s = hK.obs s.abs := HK.obsG_eq (HandSHeadRun.getT_eq s)
set_option maxHeartbeats 0
theorem run0 (w : World) : HandSHeadRun.RunEq RR qV hK oB 20000 nmL (w.withFollow "special-get-raises" false) := by
  intro os
  kernel_rfl
theorem run1 (w : World) : HandSHeadRun.RunEq RR qV hK oB 20000 nmL (w.withFollow "special-get-raises" true) := by
  intro os
  kernel_rfl
theorem runA (w : World) : HandSHeadRun.RunEq RR qV hK oB 20000 nmL w := PySem.W.byRow2 "special-get-raises" (P := fun w => HandSHeadRun.RunEq RR qV hK oB 20000 nmL w) run0 run1 w
end SH
open PySem PySem.W PySem.Calls PyProof.Rows
set_option maxRecDepth 100000 in
set_option maxHeartbeats 0 in
theorem PySem.Challenge.cw_stealhall_k15_numbers_reckoned_holds : PySem.Challenge.rw_stealhall_k15_numbers_reckoned.Holds := by
  w_on; o_law
  refine HandSHeadRun.head_any (r := OpenLaw.row PySem.Challenge.rw_stealhall_k15_numbers_reckoned) (q := SH.qV) (H := SH.hK) (ob := SH.oB) (M := 20000) (loose := SH.nmL) (d := HandSHeadRun.topDef (OpenLaw.row PySem.Challenge.rw_stealhall_k15_numbers_reckoned).prog 118) (kwd := []) SH.oB_eq
    (by kernel_rfl) (fun s => by kernel_rfl) SH.runA (by kernel_rfl) (by kernel_rfl) (by kernel_rfl) (by rfl) (by first | assumption | decide +kernel) (by decide +kernel) ⟨rfl, rfl, rfl, rfl, rfl, by decide +kernel⟩ ?hw ?hc
  case hw => w_witness2
  case hc =>
    refine SH.walk_GE (l := PySem.Challenge.rw_stealhall_k15_numbers_reckoned) (k := 30) (sp := SH.spLaw) rfl (by kernel_rfl) ⟨rfl, by decide, by decide⟩ ?F (fun K H a ns hl hS => ⟨a, ns, rfl, hS, hl, fun _ => rfl⟩)
    intro w mg fa h Y G hmg0
    obtain ⟨K, KX, c⟩ := Y
    have hmg : mg ("law" : PySem.Str) = some (.ref fa) := by
      have e : (HandSHeadRun.topDef (OpenLaw.row PySem.Challenge.rw_stealhall_k15_numbers_reckoned).prog 118).name = ("law" : PySem.Str) := by kernel_rfl
      rw [← e]
      exact hmg0
    exact ⟨K, KX, SH.facts KX G hmg c⟩
