import PyProof.Rows.All
import Wide.All
import OpenK.AllK
import Wide.FinOn
import HandS.ForMost
import HandS.More
import HandS.FStr
import HandS.IsInst
import HandS.Strs
import HandS.SetBool
import HandS.SetKeys
import HandS.DictComp
import KE.KCallOwn
import HandS.OwnEq
import PyProof.ReprRoads
import HandS.ForExc
import HandS.ExcInit
import HandS.ExcSuper
import KE.KExcSuper
import KE.KExcLine
import KE.KExcIs
import HandS.HotCalls
import HandS.ExcField
import PyProof.StrLawsRepr
import PyProof.FitsInt
import HandS.Codes
import HandS.Walk
import HandS.RaiseMore
import HandS.Defaults
import HandS.TupAny
import HandS.DictSub
import HandS.NoneIn
import PySem.Challenge.RW_stealhall_k02_books_made
set_option Elab.async false
set_option linter.all false
set_option maxRecDepth 100000
/-! Expressions: what they are, their text, how they lie in the heap. -/
namespace SH
open PySem L2
inductive Sg where
  | add | sub | mul | lt | eq
def Sg.txt : Sg → Str
  | .add => "+"
  | .sub => "-"
  | .mul => "*"
  | .lt => "<"
  | .eq => "=="
def Sg.lv : Sg → Int
  | .add => 2
  | .sub => 2
  | .mul => 3
  | .lt => 1
  | .eq => 1
inductive Ex where
  | num (n : Int)
  | nam (s : Str)
  | op (g : Sg) (l r : Ex)
def Ex.lv : Ex → Int
  | .num _ => 4
  | .nam _ => 4
  | .op g _ _ => g.lv
def Ex.lw : Ex → Int
  | .num _ => 9
  | .nam _ => 9
  | .op g _ _ => g.lv
def br (b : Bool) (t : Str) : Str := if b = true then ("(" : Str) ++ t ++ (")" : Str) else t
def lB (g : Sg) (l : Ex) : Bool := decide (l.lv < g.lv) || decide (l.lv = 1)
def rB (g : Sg) (r : Ex) : Bool := decide (r.lv ≤ g.lv)
def Ex.txt : Ex → Str
  | .num n => (toString n : String)
  | .nam s => s
  | .op g l r => br (lB g l) l.txt ++ (" " : Str) ++ g.txt ++ (" " : Str) ++ br (rB g r) r.txt
/-- at most n deep, its parts within bounds -/
def Ex.ok : Nat → Ex → Prop
  | 0, _ => False
  | _ + 1, .num n => n.natAbs.log2 < 1920
  | _ + 1, .nam s => s.length ≤ 2000
  | n + 1, .op _ l r => Ex.ok n l ∧ Ex.ok n r
def lenB : Nat → Nat
  | 0 => 2000
  | n + 1 => 2 * lenB n + 2000
theorem app_len (a b : Str) : (a ++ b).length = a.length + b.length := by
  show (a.cps ++ b.cps).size = _
  rw [Array.size_append]
  all_goals rfl
theorem emp_app (a : Str) : Str.empty ++ a = a := by
  show (⟨#[] ++ a.cps⟩ : Str) = a
  rw [Array.empty_append]
theorem Sg.len (g : Sg) : g.txt.length ≤ 2 := by cases g <;> decide +kernel
theorem br_len (b : Bool) (t : Str) : (br b t).length ≤ t.length + 2 := by
  unfold br
  split
  · rw [app_len, app_len]
    have h1 : ("(" : Str).length = 1 := by decide +kernel
    have h2 : (")" : Str).length = 1 := by decide +kernel
    omega
  · omega
theorem Ex.len : ∀ (n : Nat) (e : Ex), Ex.ok n e → e.txt.length ≤ lenB n
  | 0, _, h => h.elim
  | n + 1, .num i, h => by
    have q := PyProof.Rows.int_text_len_1921 (i := i) h
    show (PySem.Str.ofString (toString i)).length ≤ 2 * lenB n + 2000
    omega
  | n + 1, .nam s, h => by
    show s.length ≤ 2 * lenB n + 2000
    have : s.length ≤ 2000 := h
    omega
  | n + 1, .op g l r, h => by
    have h1 := Ex.len n l h.1
    have h2 := Ex.len n r h.2
    have q1 := br_len (lB g l) l.txt
    have q2 := br_len (rB g r) r.txt
    have q3 := g.len
    have hb : (" " : Str).length = 1 := by decide +kernel
    show (br (lB g l) l.txt ++ (" " : Str) ++ g.txt ++ (" " : Str) ++ br (rB g r) r.txt).length ≤ 2 * lenB n + 2000
    rw [app_len, app_len, app_len, app_len]
    omega
theorem Ex.ok_up : ∀ {n m : Nat} {e : Ex}, n ≤ m → Ex.ok n e → Ex.ok m e
  | 0, _, _, _, h => h.elim
  | n + 1, m + 1, .num _, _, h => h
  | n + 1, m + 1, .nam _, _, h => h
  | n + 1, m + 1, .op _ _ _, hm, h => ⟨Ex.ok_up (by omega) h.1, Ex.ok_up (by omega) h.2⟩
/-- what lies at v is the expression -/
def TrIn (H : Hp) : Ex → V → Prop
  | .num n, v => ∃ a, v = .ref a ∧ H a = some (.tup [.str "number", .int n])
  | .nam s, v => ∃ a, v = .ref a ∧ H a = some (.tup [.str "name", .str s])
  | .op g l r, v => ∃ a x y, v = .ref a ∧ H a = some (.tup [.str g.txt, x, y]) ∧ TrIn H l x ∧ TrIn H r y
/-- all but what stands at b stays -/
def But (b : Addr) (H H' : Hp) : Prop := ∀ a o, a ≠ b → H a = some o → H' a = some o
theorem But.of {b : Addr} {H H' : Hp} (h : Same H H') : But b H H' := fun a o _ e => h a o e
theorem But.trans {b : Addr} {H H1 H2 : Hp} (h : But b H H1) (k : But b H1 H2) : But b H H2 := fun a o n e => k a o n (h a o n e)
theorem TrIn.same {H H' : Hp} (h : Same H H') : ∀ {e : Ex} {v : V}, TrIn H e v → TrIn H' e v
  | .num n, v, ⟨a, e, k⟩ => ⟨a, e, h _ _ k⟩
  | .nam n, v, ⟨a, e, k⟩ => ⟨a, e, h _ _ k⟩
  | .op g l r, v, ⟨a, x, y, e, k, p, q⟩ => ⟨a, x, y, e, h _ _ k, TrIn.same h p, TrIn.same h q⟩
theorem lst_ne {H : Hp} {a b : Addr} {xs ys : List V} (h : H a = some (.tup xs)) (k : H b = some (.lst ys)) : a ≠ b := fun e => by
  rw [e, k] at h
  cases h
theorem TrIn.but {H H' : Hp} {b : Addr} {ys : List V} (hb : H b = some (.lst ys)) (h : But b H H') : ∀ {e : Ex} {v : V}, TrIn H e v → TrIn H' e v
  | .num n, v, ⟨a, e, k⟩ => ⟨a, e, h _ _ (lst_ne k hb) k⟩
  | .nam n, v, ⟨a, e, k⟩ => ⟨a, e, h _ _ (lst_ne k hb) k⟩
  | .op g l r, v, ⟨a, x, y, e, k, p, q⟩ => ⟨a, x, y, e, h _ _ (lst_ne k hb) k, TrIn.but hb h p, TrIn.but hb h q⟩
theorem same_new {H : Hp} {p : Addr} (h : H p = none) (o : HO) : Same H (upd H p o) := fun b u q => by
  rw [upd_ne (ne_of_none q h)]
  exact q
def Ex.head : Ex → Str
  | .num _ => "number"
  | .nam _ => "name"
  | .op g _ _ => g.txt
theorem TrIn.tup {H : Hp} : ∀ {e : Ex} {v : V}, TrIn H e v → ∃ a xs, v = .ref a ∧ H a = some (.tup xs) ∧ xs[0]? = some (.str e.head)
  | .num n, v, ⟨a, e, k⟩ => ⟨a, _, e, k, rfl⟩
  | .nam n, v, ⟨a, e, k⟩ => ⟨a, _, e, k, rfl⟩
  | .op g l r, v, ⟨a, x, y, e, k, p, q⟩ => ⟨a, _, e, k, rfl⟩
theorem Sg.ne_number (g : Sg) : g.txt ≠ ("number" : Str) := by cases g <;> decide +kernel
theorem Sg.ne_name (g : Sg) : g.txt ≠ ("name" : Str) := by cases g <;> decide +kernel
/-! ### d.get(k, x) of a dict of the module, keys texts -/
section
variable {X : Cx} {o e f : Expr} {apos cpos : Pos} {td ty tx : TE}
def KGet (K : PySem.W.Frag) (w : World) (a : Addr) (x : Str) (r : Option V) : Prop :=
  ∃ es n ou, K.lookup a = some ⟨.type "dict", none, .dict es n, #[]⟩ ∧ PySem.W.KeysLit w.params es.toList ∧ (a == sysModules) = false ∧ PySem.W.nsIn K a x = some ou ∧
    ((∃ v u, r = some v ∧ ou = some u ∧ RelV v u) ∨ (r = none ∧ ou = none))
def tKGet2 (K : PySem.W.Frag) (w : World) (td ty tx : TE) : TE := fun σ H Q => td σ H fun x H1 => ∃ a es n, x = .ref a ∧ K.lookup a = some ⟨.type "dict", none, .dict es n, #[]⟩ ∧ PySem.W.KeysLit w.params es.toList ∧
  ty σ H1 fun y H2 => tx σ H2 fun z H3 => ∃ k r, y = .str k ∧ KGet K w a k r ∧ Q (r.getD z) H3
theorem pe_kget2 (ho : PE X o td) (he : PE X e ty) (hf : PE X f tx) (m : M2 X o "get" apos e f cpos) : PE X (.Call (.Attribute o "get" apos) [e, f] [] cpos) (tKGet2 X.K X.w td ty tx) := by
  refine ⟨fun pins s σ H Q I h => ?_⟩
  refine wpAny_Call_method m.base m.few m.line PySem.F.plainAttrs_dict PySem.F.slot_dict_get PySem.F.type_dict_get (thn (ho.run pins s σ H _ I h) fun u s1 ⟨x, H1, I1, rx, a, es, n, ex, hl, hk, q1⟩ => ?_)
  subst ex
  obtain rfl : u = Value.ref a := rx
  have hm := PySem.W.mapOf_K (prog := X.prog) (w := X.w) I1.kIn hl hk
  refine ⟨hm.typeIs, fun b q => ?_, ?_⟩
  · cases q
    exact ⟨_, I1.kIn _ _ hl, rfl⟩
  rw [m.trees]
  refine Calls.callWith_builtin rfl (Calls.evalArgs_plain (Calls.spliced_cons (thn (he.run pins s1 σ H1 _ I1 q1) fun iv s2 ⟨y, H2, I2, ry, q2⟩ =>
    Calls.spliced_cons (thn (hf.run pins s2 σ H2 _ I2 q2) fun fv s3 ⟨z, H3, I3, rz, k, r, ey, g, q3⟩ => Calls.spliced_nil ?_))))
  subst ey
  obtain ⟨t, rfl⟩ := (show ∃ t, iv = Value.str k t from ry)
  obtain ⟨es', n', ou, hl', hk', low, hn, hr⟩ := g
  have hm3 := PySem.W.mapOf_K (prog := X.prog) (w := X.w) I3.kIn hl' hk'
  refine call_meetsIn PySem.F.slot_dict_get hm3.typeIs PySem.F.entry_dict_get (PySem.F.args_dict_get_3 _ _ _) (meets_dict_get_default (strKind X.prog X.w) a (strKind_is X.prog X.w k t) low fv) ⟨_, hm3, ?_⟩
  rw [PySem.W.find_K hl' hn]
  rcases hr with ⟨v, u, rfl, rfl, rv⟩ | ⟨rfl, rfl⟩
  · exact ⟨v, H3, I3.tok _, rv, q3⟩
  · exact ⟨z, H3, I3.tok _, rz, q3⟩
end
/-! ### rules within a comprehension: the written part by its name -/
section
variable {X : Cx}
theorem ix_tupK (K : PySem.W.Frag) (h : X.K = K := by rfl) : IxR X (rIxT K) := h ▸ ix_tup
theorem ix_listK (K : PySem.W.Frag) (h : X.K = K := by rfl) : IxR X (rIxL K) := h ▸ ix_list
theorem call_len_seqK (K : PySem.W.Frag) (h : X.K = K := by rfl) : CallR X (.builtin "len") (fun xs H Q => ∃ p ys, xs = [V.ref p] ∧ (SqL K H p ys ∨ SqT K H p ys) ∧ Q (.int (ys.length : Nat)) H) := h ▸ call_len_seq
theorem op_in_seqK (K : PySem.W.Frag) (h : X.K = K := by rfl) : OpR X (compareOp .In) (rIn K false) := h ▸ op_in_seq
theorem op_notIn_seqK (K : PySem.W.Frag) (h : X.K = K := by rfl) : OpR X (compareOp .NotIn) (rIn K true) := h ▸ op_notIn_seq
end
end SH

set_option Elab.async false
set_option linter.all false
set_option maxRecDepth 100000
/-! Sets of unlike texts: set(tuple), {.. for .. in ..}, and how many stand in one. -/
namespace SHSet
open PySem PySem.Spec PyProof.Rows
/-- a set in which just these unlike texts stand -/
def TxtSet (prog : Program) (w : World) (h : Heap) (D : Addr) (xs : List Str) : Prop := h.SetOf (strKind prog w) D (fun y => decide (y ∈ xs)) xs.length
section
variable {prog : Program} {w : World} {A : Around} {D : Addr}
theorem TxtSet.keep {h k : Heap} {xs : List Str} (q : TxtSet prog w h D xs) (m : ∀ o, h.get? D = some o → k.get? D = some o) : TxtSet prog w k D xs := by
  obtain ⟨o, es, ep, tb, ho, rest⟩ := q
  exact ⟨o, es, ep, tb, m _ ho, rest⟩
/-- one more text, if it isn't there -/
def addT (xs : List Str) (y : Str) : List Str := if y ∈ xs then xs else xs ++ [y]
/-- each once -/
def dd (xs : List Str) : List Str := xs.foldl addT []
theorem dd_snoc (xs : List Str) (y : Str) : dd (xs ++ [y]) = addT (dd xs) y := by
  unfold dd
  rw [List.foldl_append]
  rfl
theorem addT_len (xs : List Str) (y : Str) : (addT xs y).length ≤ xs.length + 1 := by
  unfold addT
  split
  · omega
  · rw [List.length_append, List.length_singleton]
    omega
theorem dd_len (n : Nat) : ∀ xs : List Str, xs.length = n → (dd xs).length ≤ n := by
  induction n with
  | zero =>
    intro xs h
    rw [List.eq_nil_of_length_eq_zero h]
    exact Nat.le_refl _
  | succ n ih =>
    intro xs h
    have hne : xs ≠ [] := fun z => by rw [z] at h; cases h
    have e := (List.dropLast_concat_getLast hne).symm
    have hl : xs.dropLast.length = n := by rw [List.length_dropLast, h]; rfl
    have := ih xs.dropLast hl
    have a := addT_len (dd xs.dropLast) (xs.getLast hne)
    rw [e, dd_snoc]
    omega
theorem dd_fold : ∀ (xs acc : List Str), (acc ++ xs).Nodup → xs.foldl addT acc = acc ++ xs
  | [], acc, _ => (List.append_nil acc).symm
  | x :: r, acc, h => by
    have hx : x ∉ acc := fun m => by
      have := List.nodup_append.mp h
      exact this.2.2 x m x List.mem_cons_self rfl
    show r.foldl addT (addT acc x) = acc ++ x :: r
    have e : addT acc x = acc ++ [x] := by unfold addT; rw [if_neg hx]
    have e2 : acc ++ x :: r = (acc ++ [x]) ++ r := by rw [List.append_assoc]; rfl
    rw [e, e2]
    rw [e2] at h
    exact dd_fold r (acc ++ [x]) h
theorem dd_nd {xs : List Str} (h : xs.Nodup) : dd xs = xs := dd_fold xs [] h
theorem TxtSet.one {xs : List Str} {y : Str} {t : Tok} {s : Shared} {E : Value → Shared → Prop} {Q : Bool → Shared → Prop} (q : TxtSet prog w s.heap D xs) (few : xs.length + 1 < scanBound)
    (h : ∀ k, s.heap.SameBut D k → TxtSet prog w k D (addT xs y) → ∀ r, Q r { s with heap := k, toks := s.toks + 1 }) : wpAny (model prog w) A (setAdd D (.str y t)) Q E s := by
  unfold setAdd
  refine wpAny_holding (wpAny_bind ((strKind prog w).pyHash (k := y) (strKind_is prog w y t) ?_))
  refine wpAny_setAddHashed_of (knd := strKind prog w) (s := { s with toks := s.toks + 1 }) (strKind_is prog w y t) rfl q few fun k sb st => h k sb ?_ _
  unfold addT
  by_cases hy : y ∈ xs
  · rw [if_pos hy]
    refine SetOf_congr st (fun z => ?_) (by rw [decide_eq_true hy]; rfl)
    by_cases e : z = y
    · subst e; simp [hy]
    · simp [e]
  · rw [if_neg hy]
    refine SetOf_congr st (fun z => ?_) ?_
    · simp [List.mem_append]
    · rw [if_neg (by rw [decide_eq_false hy]; exact Bool.false_ne_true), List.length_append]
      rfl
end
section
variable {prog : Program} {w : World} {A : Around} {R : Result → Shared → Prop} {J D : Addr} {ft wt : List Addr} {Gs : Array GenState → Array GenState → Prop} {n : Nat} {Pi : Nat → Value → Prop} {Sat : Nat → Shared → Prop}
theorem texts_loop (W : WalksS prog w A.in1 J ft wt Gs n Pi Sat) (out : D ∉ ft) {xs : List Str} (len : xs.length = n) (few : n + 1 < scanBound) (val : ∀ i v, Pi i v → ∃ t, v = .str (xs.getD i Str.empty) t) :
    ∀ (m i : Nat) (s : Shared), i + m = n → Sat i s → TxtSet prog w s.heap D (dd (xs.take i)) → (∀ z, Moved (D :: wt) Gs s z → TxtSet prog w z.heap D (dd xs) → R (.ok (.ret .none)) z) →
      codeAny (model prog w) A (.builtin "set.update.loop" ⟨[.ref D, .ref J], []⟩) R s := by
  have outW : D ∉ wt := fun q => out (W.sub _ q)
  have wide : ∀ b ∈ wt, b ∈ D :: wt := fun b q => List.mem_cons_of_mem _ q
  intro m
  induction m with
  | zero =>
    intro i s him st q fin
    have ei : xs.take i = xs := List.take_of_length_le (by omega)
    rw [ei] at q
    refine codeAny_builtin PyProof.Rows.F.entry_set_update_loop (by
      rw [Around.under_plainId PyProof.Rows.F.plain_set_update_loop _]
      refine (show wpAny _ A.in1 (pyNext (.ref J) >>= _) _ _ s from wpAny_bind (W.done s _ _ (by rw [show n = i by omega]; exact st) fun z mv => ?_))
      exact (show wpAny _ A.in1 (ret Value.none) _ _ z from wpAny_pure (fin z (mv.mono wide) (q.keep fun o ho => mv.heap D o outW ho))))
  | succ m ih =>
    intro i s him st q fin
    have lt : i < xs.length := by omega
    refine codeAny_builtin PyProof.Rows.F.entry_set_update_loop (by
      rw [Around.under_plainId PyProof.Rows.F.plain_set_update_loop _]
      refine (show wpAny _ A.in1 (pyNext (.ref J) >>= _) _ _ s from wpAny_bind (W.item i s _ _ (by omega) st fun v z pv stz mv => ?_))
      obtain ⟨t, rfl⟩ := val i v pv
      have qz : TxtSet prog w z.heap D (dd (xs.take i)) := q.keep fun o ho => mv.heap D o outW ho
      have here : xs.getD i Str.empty = xs[i] := by rw [List.getD_eq_getElem?_getD, List.getElem?_eq_getElem lt]; rfl
      have more : xs.take (i + 1) = xs.take i ++ [xs.getD i Str.empty] := by rw [here, List.take_add_one, List.getElem?_eq_getElem lt]; rfl
      refine (show wpAny _ A.in1 (holding [Value.str (xs.getD i Str.empty) t] (setAdd D (.str (xs.getD i Str.empty) t)) >>= _) _ _ z from wpAny_bind (wpAny_holding ?_))
      refine qz.one (by have := dd_len i (xs.take i) (by rw [List.length_take]; omega); omega) fun k sb qk r => ?_
      rw [← dd_snoc, ← more] at qk
      refine wpAny_pure ⟨plainId_quiet PyProof.Rows.F.plain_set_update_loop _, ih (i + 1) _ (by omega) (W.frame _ z _ _ stz (Nat.le_succ _) fun b hb o e => ?_) qk fun u mu qu => ?_⟩
      · exact (sb.2 b (fun q : b = D => out (q ▸ hb))).trans e
      · refine fin u (Moved.trans W.gtrans ((mv.mono wide).then_heap (Nat.le_succ _) fun b o hb e => ?_) mu) qu
        exact (sb.2 b (fun q : b = D => hb (by rw [q]; exact List.mem_cons_self))).trans e)
end
section
variable {prog : Program} {w : World} {A : Around} {E : Value → Shared → Prop} {s : Shared}
/-- an empty set, just made -/
abbrev bareSet (led : Bool) : Obj := { cls := .type "set", dict := none, data := .set #[] 0 (.fresh 0 0 led) }
theorem txt0 {h : Heap} {D : Addr} {led : Bool} (g : h.get? D = some (bareSet led)) : TxtSet prog w h D [] :=
  SetOf_congr ((setObjOf_fresh (knd := strKind prog w) led).setOf g (by decide)) (fun _ => rfl) rfl
/-- set.__init__ over a tuple of texts -/
theorem init_texts {D l : Addr} {items : Array Value} {xs : List Str} {led : Bool} {Q : Value → Shared → Prop} (quiet : A.handled = none) (hl : s.heap.IsTuple l items) (hx : StrsAre items.toList xs) (few : xs.length + 1 < scanBound) (hD : D < s.heap.objs.size) (hDl : l < D) (g : s.heap.get? D = some (bareSet led))
    (h : ∀ (k : Heap) (tk : Nat), TxtSet prog w k D (dd xs) → (∀ b o, b < D → s.heap.get? b = some o → k.get? b = some o) → Q .none { s with heap := k, toks := tk }) :
    codeAny (model prog w) A (.call (.builtin "set.__init__") ⟨[.ref D, .ref l], []⟩) (wants Q E) s := by
  have ty : s.TypeIs (.ref D) "set" := ⟨_, g, rfl⟩
  refine codeAny_call_builtin PySem.F.called_set.init.plain PySem.F.entry_set_init (check_set_init_1 ty ?_)
  obtain ⟨⟨c1, c2, c3, c4⟩, at_l, k1, k2, k3⟩ := hl
  simp only at k1 k3
  subst k1
  subst k3
  have f1 := PySem.F.sub_tuple_set
  have f2 := PySem.F.sub_tuple_frozenset
  have f3 : (Value.type "tuple" == Value.type "dict") = false := by decide
  have whole : s.heap.IsTuple l items := ⟨_, at_l, rfl, k2, rfl⟩
  unfold Builtin.«set.__init__» noKeywords Builtin.Frozenset.updateFrom
  generalize hit : pyIter = PI
  wp_walk
  subst hit
  refine wpAny_pyIter_tuple whole (wpAny_bind (wpAny_runValue ?_))
  have calm : A.in1.in1.handled = none := by simp [quiet]
  have lJ : l ≠ s.heap.objs.size := Nat.ne_of_lt (Nat.lt_trans hDl hD)
  have hsz : xs.length = items.size := by rw [← StrsAre.len_eq hx, Array.length_toList]
  refine texts_loop (prog := prog) (w := w) (A := A.in1) ((Walks.tuple calm _ l lJ items).toS) (D := D) ?_ hsz (by omega) (fun i v hv => SS.strs_at hx i v (by rw [Array.getElem?_toList]; exact hv)) items.size 0 _ (by omega) ?_ ?_ fun z mv qz => ?_
  · simp only [List.mem_cons, List.mem_singleton, List.not_mem_nil, or_false, not_or]
    exact ⟨Nat.ne_of_lt hD, Nat.ne_of_gt hDl⟩
  · exact ⟨⟨_, Heap.get?_push_size _ rfl, rfl, rfl⟩, whole.push _⟩
  · exact txt0 (led := led) (Heap.get?_push_of_some _ g)
  · obtain ⟨hz, gz, dz, tz, oz⟩ := z
    obtain rfl : gz = s.gens := mv.gens
    obtain rfl : dz = s.drawn := mv.drawn
    obtain rfl : oz = s.os := mv.os
    refine wpAny_pure (wpAny_pure (h hz tz qz fun b o hb e => mv.heap b o ?_ (Heap.get?_push_of_some _ e)))
    simp only [List.mem_cons, List.mem_singleton, List.not_mem_nil, or_false, not_or]
    exact ⟨Nat.ne_of_lt hb, Nat.ne_of_lt (Nat.lt_trans hb hD)⟩
/-- set(tuple of unlike texts) -/
theorem call_texts {l : Addr} {items : Array Value} {xs : List Str} {Q : Value → Shared → Prop} (quiet : A.handled = none) (hl : s.heap.IsTuple l items) (hx : StrsAre items.toList xs) (few : xs.length + 1 < scanBound)
    (h : ∀ (k : Heap) (tk : Nat), TxtSet prog w k s.heap.objs.size (dd xs) → (∀ b o, b < s.heap.objs.size → s.heap.get? b = some o → k.get? b = some o) → Q (.ref s.heap.objs.size) { s with heap := k, toks := tk }) :
    wpAny (model prog w) A (call (.type "set") [.ref l]) Q E s := by
  obtain ⟨c, tl, f1⟩ := PySem.F.called_set.mro
  have f2 := PySem.F.called_set.made
  have f3 := PySem.F.called_set.sub
  refine wpAny_call (codeAny_of_tree (show wpAny _ _ (callAny (.type "set") _) _ _ _ from wpAny_pure ⟨Code.quiet_builtin _ (by decide +kernel), codeAny_builtin PySem.F.entry_type_call ?_⟩))
  rw [Around.under_plain (weight_type_call_type "set" [.ref l] []) rfl]
  have f4 := PySem.F.called_set.notType
  have f5 := PySem.F.called_set.canCreate
  have f6 := PySem.F.typeCall_set_1 (.ref l)
  repeat (any_goals (first | assumption | wp_step))
  refine codeAny_mono (code_set_new_1 (.ref l) (E := E) (Q₁ := fun o z => ∃ led : Bool, o = .ref s.heap.objs.size ∧ z = { s with heap := s.heap.push (bareSet led) }) fun led => ⟨led, rfl, rfl⟩) fun r z hr => ?_
  cases r with
  | error e => exact hr
  | ok fl =>
    cases fl with
    | ret obj =>
      obtain ⟨led, rfl, rfl⟩ := hr
      have g : (s.heap.push (bareSet led)).get? s.heap.objs.size = some (bareSet led) := Heap.get?_push_size _ rfl
      have f7 : Shared.TypeIs { s with heap := s.heap.push (bareSet led) } (.ref s.heap.objs.size) "set" := ⟨_, g, rfl⟩
      have f8 := PySem.F.called_set.init.lookup
      have f9 := PySem.F.called_set.init.bind (.ref s.heap.objs.size)
      repeat (any_goals (first | assumption | wp_step))
      have hlt : l < s.heap.objs.size := by
        obtain ⟨o, ho, _⟩ := hl
        exact Heap.lt_size ho
      refine codeAny_mono (init_texts (prog := prog) (w := w) (E := E) (Q := fun r z => r = .none ∧ ∃ k tk, z = { s with heap := k, toks := tk } ∧ TxtSet prog w k s.heap.objs.size (dd xs) ∧ ∀ b o, b < s.heap.objs.size → s.heap.get? b = some o → k.get? b = some o) (led := led) (by simp [quiet]) (hl.push _) hx few (by rw [Heap.size_push]; exact Nat.lt_succ_self _) hlt g fun k tk q kp => ⟨rfl, k, tk, rfl, q, fun b o hb e => kp b o hb (Heap.get?_push_of_some _ e)⟩) fun r z hr => ?_
      cases r with
      | error e => exact hr
      | ok fl =>
        cases fl with
        | ret r =>
          obtain ⟨rfl, k, tk, rfl, q, kp⟩ := hr
          repeat (any_goals (first | assumption | wp_step))
          exact h k tk q kp
        | _ => exact hr.elim
    | _ => exact hr.elim
end
end SHSet
namespace SH
open PySem PySem.Spec PyProof.Rows L2 SHSet
/-- len(set(t)), t a tuple of texts -/
def tLenTxt (K : PySem.W.Frag) (ta : TE) : TE := fun σ H Q => ta σ H fun x H1 => ∃ (l : Addr) (xs : List Str), x = .ref l ∧ SqT K H1 l (xs.map V.str) ∧ xs.length ≤ 1000 ∧ Q (.int ((dd xs).length : Nat)) H1
section
variable {X : Cx}
theorem pe_lenTxt {a : Expr} {ta : TE} {p p2 q pos : Pos} (hg : Gl X "len") (ml : X.mg "len" = none) (hg2 : Gl X "set") (ms : X.mg "set" = none) (ha : PE X a ta) (quiet : X.calm = true := by rfl)
    (plain : starEach [a] X.env = (false, eval a X.env) :: starEach [] X.env := by rfl) : PE X (.Call (.Name "len" p) [.Call (.Name "set" p2) [a] [] q] [] pos) (tLenTxt X.K ta) := by
  refine ⟨fun pins s σ H Q I h => Call_ (ld_blt I hg ml boot_len (callWith_builtin1 (args_cons (Call_ (ld_blt I hg2 ms boot_set ?_)) rfl) rfl rfl))⟩
  refine callWith_type1 (args_cons (thn (ha.run pins s σ H _ I h) fun v z ⟨x, H1, J, rx, l, xs, ex, tq, few, fin⟩ => args_nil ?_) plain) plain rfl
  subst ex
  cases rx
  obtain ⟨its, rv, tup, _⟩ := J.tuple tq
  have small : (dd xs).length ≤ 1000 := Nat.le_trans (dd_len xs.length xs rfl) few
  refine call_texts (J.ok.hd quiet) tup (xs := xs) (by simpa using strsAre_of rv) (by unfold scanBound; omega) fun k tk qs kp => args_nil ?_
  obtain ⟨o, es, ep, tb, h1, h2, h3, _, _, _, h4, h5⟩ := qs
  have J2 : Inv X pins σ H1 { z with heap := k, toks := tk } := J.kept fun b o e => kp b o (Heap.lt_size e) e
  exact call_len_set h1 h2 h3 h4 (by rw [h5]; omega) ⟨.int ((dd xs).length : Nat), H1, J2.tok _, ⟨_, by rw [h5]⟩, fin⟩
end
end SH

set_option Elab.async false
set_option linter.all false
set_option maxRecDepth 100000
set_option maxHeartbeats 2000000
/-! {e for x in xs}, e a text. -/
namespace SH
open PySem PySem.Spec PyProof.Rows L2 SHSet
/-- the set of texts at D -/
def TxtO (P : Program) (w : World) (D : Addr) (xs : List Str) : HO := .ext fun h => TxtSet P w h D xs
theorem txtO_ok {P : Program} {w : World} {H : Hp} {h : Heap} {D : Addr} {xs : List Str} (q : TxtSet P w h D xs) : ObjOk P w H h D (TxtO P w D xs) := by
  have q' := q
  obtain ⟨o, _, _, _, ho, _⟩ := q'
  exact ⟨q, ⟨o, ho⟩, fun h1 h2 p k => TxtSet.keep p k⟩
section
variable {X : Cx}
theorem add_txt {pins : List (Addr × Obj)} {σ : L2.St} {H : Hp} {s : Shared} {E : Value → Shared → Prop} {D : Addr} {xs : List Str} {z : Str} {t : Tok} {Q : Value → Shared → Prop} (I : Inv X pins σ H s) (hD : H D = some (TxtO X.prog X.w D xs)) (few : xs.length + 1 < scanBound)
    (h : ∀ s', Inv X pins σ (upd H D (TxtO X.prog X.w D (addT xs z))) s' → Q .none s') : wpAny (model X.prog X.w) X.A (call (.builtin "set.add") [.ref D, .str z t]) Q E s := by
  have q : TxtSet X.prog X.w s.heap D xs := (I.hok D _ hD).1
  refine call_set_add (knd := strKind X.prog X.w) (k := z) (strKind_is X.prog X.w z t) rfl q few fun k sb st => ?_
  have nw : TxtSet X.prog X.w k D (addT xs z) := by
    unfold addT
    by_cases hy : z ∈ xs
    · rw [if_pos hy]
      refine SetOf_congr st (fun y => ?_) (by rw [decide_eq_true hy]; rfl)
      by_cases e : y = z
      · subst e; simp [hy]
      · simp [e]
    · rw [if_neg hy]
      refine SetOf_congr st (fun y => ?_) ?_
      · simp [List.mem_append]
      · rw [if_neg (by rw [decide_eq_false hy]; exact Bool.false_ne_true), List.length_append]
        rfl
  have ex : ∃ u, k.get? D = some u := by
    have n2 := nw
    obtain ⟨o, _, _, _, ho, _⟩ := n2
    exact ⟨o, ho⟩
  exact h _ (I.write (e := D) (t' := s.toks + 1) (by rw [hD]; trivial) (.inl rfl) (fun b u hb hu => (sb.2 b hb).trans hu) ex (txtO_ok nw))
/-- the readings of {e for x in xs}: D the new set -/
def tTxc (P : Program) (w : World) (wi : TI) (g : TG) (te : TE) (vs : List Nat) : TE := fun σ H Q => wi σ H fun J H1 => ∀ D, H1 D = none → ∃ W : Nat → Nat → Hp → Prop, (∃ m, W 0 m (upd H1 D (TxtO P w D []))) ∧ ∀ i m H, W i m H →
  (J.stop i H ∧ Q (.ref D) H) ∨ (J.go i H ∧ ∃ Nx : Hp → Prop, (∀ H', Nx H' → ∃ m', m' < m ∧ W (i + 1) m' H') ∧ ∀ x H', J.yld i H x H' → g x (wipe σ vs) H' fun σ2 H2 => wipe σ2 vs = wipe σ vs ∧
    te σ2 H2 fun y H4 => ∃ (z : Str) (xs : List Str), y = .str z ∧ H4 D = some (TxtO P w D xs) ∧ xs.length + 1 < scanBound ∧ Nx (upd H4 D (TxtO P w D (addT xs z))))
abbrev freshSet (w : World) : Obj := { cls := .type "set", dict := none, data := .set #[] 0 (.fresh 0 0 (!w.params.followText "set-order")) }
theorem pe_txc {elt tg iter : Expr} {scope : Scope} {own : List (PySem.Str × Nat)} {pos : Pos} {wi : TI} {g : TG} {te : TE} (quiet : X.calm = true) (ndN : X.N.Nodup) (hi : PI X tg iter wi) (ok : BlkOk X.N X.env.scope scope own)
    (hg : ∀ (s : Shared) (H : Hp) (C : Addr) (cl : List (PySem.Str × Addr)) (fp : List Addr), PG (X.blk s H scope (compEnvC scope cl C X.env) fp) tg g)
    (he : ∀ (s : Shared) (H : Hp) (C : Addr) (cl : List (PySem.Str × Addr)) (fp : List Addr), PE (X.blk s H scope (compEnvC scope cl C X.env) fp) elt te) (fold : ∀ x, foldedSetIterable iter X.env x = pure x := by intro _; rfl) :
    PE X (.SetComp elt [⟨tg, iter, [], 0⟩] scope pos) (tTxc X.prog X.w wi g te (own.map (·.2))) := by
  refine ⟨fun pins s σ H Q I h => ?_⟩
  rw [PpSet.eval_SetComp]
  have fr : ∀ y ∈ scope.names, y.2 = .free → ∃ c, X.env.cells.lookup y.1 = some c := fun y hy e => (ok.free y hy e).elim (fun k => I.ok.has _ (.inl k)) fun k => I.ok.has _ (.inr k)
  refine wpAny_comprehension_free (use := none) rfl fold (closure_ok fr) ok.kind (fun y hy e => by rw [ok.uniq y hy, e]) (thn (hi.run pins s σ H _ I h) fun _ s1 hx => thn hx fun _ s2 ⟨it, fp, tn, J, H2, e, I2, T, st2, f2, q⟩ => ?_)
  subst e
  refine PpSet.newSet_ok (newEnv_comp ?_)
  generalize hD : s2.heap.objs.size = D
  obtain ⟨W, ⟨m0, w0⟩, turn⟩ := q D (I2.hok.fresh (Nat.le_of_eq hD))
  generalize ez : ({ s2 with heap := s2.heap.push (freshSet X.w) } : Shared) = sz
  have I3 : Inv X pins σ (upd H2 D (TxtO X.prog X.w D [])) sz := by
    subst ez
    refine I2.laid (t' := s2.toks) (fun b o e => Heap.get?_push_of_some _ e) (Nat.le_of_eq hD) ?_
    subst hD
    exact txtO_ok (txt0 (Heap.get?_push_size _ rfl))
  have hh : sz.heap = s2.heap.push (freshSet X.w) := by subst ez; rfl
  have below : ∀ b ∈ fp, b < s2.heap.objs.size := fun b hb => (T.obj _ _ st2 b hb).elim fun o ho => Heap.lt_size ho.1
  have f3 : ∀ b ∈ fp, FpOk X pins (upd H2 D (TxtO X.prog X.w D [])) b ∧ b < sz.heap.objs.size := fun b hb => by
    refine ⟨⟨?_, (f2 b hb).2⟩, by rw [hh, Heap.size_push]; exact Nat.lt_succ_of_lt (below b hb)⟩
    rw [upd_ne (fun z => Nat.lt_irrefl _ (hD ▸ z ▸ below b hb))]
    exact (f2 b hb).1
  have st3 : tn 0 sz.heap := T.keep _ _ _ st2 fun b _ o e => by rw [hh]; exact Heap.get?_push_of_some _ e
  have I4 := block_start I3 ok ndN f3
  have pg := hg sz (upd H2 D (TxtO X.prog X.w D [])) sz.heap.objs.size (cellsFrom (sz.heap.objs.size + 1) scope.names (cloFrom X.env.cells scope.names [])) fp
  have pe := he sz (upd H2 D (TxtO X.prog X.w D [])) sz.heap.objs.size (cellsFrom (sz.heap.objs.size + 1) scope.names (cloFrom X.env.cells scope.names [])) fp
  show codeAny _ _ (.compStart (.SetComp elt [⟨tg, iter, [], 0⟩] scope pos) 0 (.ref it) (.ref D) (compEnvC scope (cellsFrom (sz.heap.objs.size + 1) scope.names (cloFrom X.env.cells scope.names [])) sz.heap.objs.size X.env)) (compPost (model X.prog X.w) X.A X.xe none _ (.ref D) sz.heap.objs.size) { sz with heap := pushCells (sz.heap.push { cls := .type "dict", data := .dict #[] }) scope.names }
  have nfp : ∀ b ∈ fp, (upd H2 D (TxtO X.prog X.w D [])) b = none := fun b hb => (f3 b hb).1.1
  generalize ec : compEnvC scope (cellsFrom (sz.heap.objs.size + 1) scope.names (cloFrom X.env.cells scope.names [])) sz.heap.objs.size X.env = ce at I4 pg pe ⊢
  have cl : ce.locals = sz.heap.objs.size := by subst ec; rfl
  generalize upd H2 D (TxtO X.prog X.w D []) = H3 at I3 I4 pg pe w0 nfp f3
  generalize e4 : ({ sz with heap := pushCells (sz.heap.push { cls := .type "dict", data := .dict #[] }) scope.names } : Shared) = s4 at I4 ⊢
  have st4 : tn 0 s4.heap := T.keep _ _ _ st3 fun b _ o e => by rw [← e4]; exact pushCells_keeps _ _ _ _ (Heap.get?_push_of_some _ e)
  have stat : ∀ {σ' : L2.St} {H' : Hp} {s' : Shared}, Inv (X.blk sz H3 scope ce fp) [] σ' H' s' → (∀ b ∈ fp, H' b = none) → ∀ b ∈ fp, FpOk (X.blk sz H3 scope ce fp) [] H' b := fun {_ _ _} K hn b hb =>
    ⟨hn b hb, (K.ok.exf b hb).1, K.ok.exfs b hb, .inl hb, fun x c e => (K.ok.exf b hb).2 x c e, fun p hp => absurd (show p ∈ ([] : List (Addr × Obj)) ++ [] from hp) (by simp)⟩
  have loop : codeAny (model X.prog X.w) X.A (.compLoop (.SetComp elt [⟨tg, iter, [], 0⟩] scope pos) 0 (.ref it) (.ref D) ce) (compPost (model X.prog X.w) X.A X.xe none (EP X pins σ Q) (.ref D) sz.heap.objs.size) s4 := by
    refine PpSet.compLoopS_any (fun n z => ∃ i H', Inv (X.blk sz H3 scope ce fp) [] (wipe σ (own.map (·.2))) H' z ∧ tn i z.heap ∧ (∀ b ∈ fp, H' b = none) ∧ W i n H') ?_ m0 ⟨0, H3, I4, st4, nfp, w0⟩
    rintro n s5 ⟨i, H5, I5, st5, n5, w5⟩
    rcases turn i n H5 w5 with ⟨stop, qq⟩ | ⟨go, Nx, hNx, step⟩
    · refine thnF (T.done (X.blk sz H3 scope ce fp) rfl rfl rfl quiet i [] s5 _ H5 (fun _ _ => False) I5 (stat I5 n5) st5 stop) fun r s6 ⟨hr, I6⟩ => ?_
      subst hr
      have I7 : Inv X pins σ H5 s6 := I3.call' (ch := fp) I6.os I6.base I6.hok I6.bare fun b hb => have u := (f3 b hb).1.2; ⟨u.2.2.1, u.1, u.2.2.2.1, u.2.2.2.2⟩
      have nC : H5 sz.heap.objs.size = none := cl ▸ (show H5 ce.locals = none from I6.free)
      obtain ⟨m, hn, _⟩ := I6.loc
      have hn' : s6.heap.Ns sz.heap.objs.size m := cl ▸ (show s6.heap.Ns ce.locals m from hn)
      obtain ⟨u0, u1, u2, u3, u4, u5⟩ := I3.fpOk (Nat.le_refl _) nC
      refine ⟨m, hn', fun k sb => ⟨.ref D, H5, I7.turned (t' := s6.toks) (fun b o hb e => (sb.2 b hb).trans e) u0 u1 u3 u4 u5, rfl, qq⟩⟩
    · refine thnF (T.item (X.blk sz H3 scope ce fp) rfl rfl rfl quiet i [] s5 _ H5 (fun _ _ => False) I5 (stat I5 n5) st5 go) fun r s6 ⟨u, hr, h6⟩ => ?_
      subst hr
      refine thnF h6 fun _ s7 ⟨x, H7, I7, r7, y7, st7, n7⟩ => ?_
      refine thnF (pg.run _ s7 _ H7 x u _ (I7.pinned (stat I7 n7) (T.obj _ _ st7)) r7 (step x H7 y7)) fun _ s8 ⟨σ8, H8, I8, hw8, q8⟩ => ?_
      refine thnF ((pts_nil (X := X.blk sz H3 scope ce fp)).run _ s8 σ8 H8 _ I8 (show tYes σ8 H8 (fun b K => b = true ∧ te σ8 K _) from ⟨rfl, q8⟩)) fun b s9 ⟨H9, I9, eb, q9⟩ => ?_
      subst eb
      simp only [if_true]
      refine thnF (pe.run _ s9 σ8 H9 _ I9 q9) fun z s10 ⟨yv, H10, I10, r10, zt, xs, ey, hD10, few, nx⟩ => ?_
      subst ey
      obtain ⟨tk, rfl⟩ := (show ∃ tk, z = Value.str zt tk from r10)
      refine add_txt (X := X.blk sz H3 scope ce fp) I10 hD10 few fun s11 I11 => ?_
      obtain ⟨m', hm, w'⟩ := hNx _ nx
      have pin : ∀ b ∈ fp, ∀ o, s7.heap.get? b = some o → s11.heap.get? b = some o ∧ (upd H10 D (TxtO X.prog X.w D (addT xs zt))) b = none := fun b hb o e =>
        have v := I11.pin (b, o) (List.mem_append_right _ (List.mem_append_right _ (mem_pinsAt hb e)))
        ⟨v.1, v.2.1⟩
      refine ⟨m', hm, i + 1, _, (I11.unpinned (pins := [])).weak (by rw [← hw8, wipe_length]) (fun j v e => ?_), T.keep _ _ _ st7 fun b hb o e => (pin b hb o e).1, fun b hb => ?_, w'⟩
      · rw [← hw8] at e
        exact (wipe_some e).1
      · exact (T.obj _ _ st7 b hb).elim fun o ho => (pin b hb o ho.1).2
  exact PpSet.codeAny_compStart_set loop (T.self X.A 0 _ _ _ st4 loop)
/-- len of such a set -/
theorem call_lenTxt : CallR X (.builtin "len") (fun xs H Q => ∃ (D : Addr) (l : List Str), xs = [.ref D] ∧ H D = some (TxtO X.prog X.w D l) ∧ l.length ≤ 1000 ∧ Q (.int (l.length : Nat)) H) := by
  intro pins s σ H xs us Q I r h
  obtain ⟨D, l, rfl, hD, few, q⟩ := h
  obtain ⟨u, rfl, ru⟩ := vals1 r
  cases ru
  obtain ⟨o, es, ep, tb, h1, h2, h3, _, _, _, h4, h5⟩ := (I.hok D _ hD).1
  exact call_len_set h1 h2 h3 h4 (by rw [h5]; omega) ⟨.int (l.length : Nat), H, I.tok _, ⟨_, by rw [h5]⟩, q⟩
end
end SH

set_option Elab.async false
set_option linter.all false
set_option maxRecDepth 100000
namespace SH
open PySem PySem.Spec PyProof.Rows L2
section
variable {X : Cx}
/-- y = {k: v for x in xs} -/
theorem ps_setDc {i : Nat} {y : PySem.Str} {py : Pos} {kx vx tg iter : Expr} {scope : Scope} {own : List (PySem.Str × Nat)} {pos spos : Pos} {wi : TI} {g : TG} {tk tv : TE} (quiet : X.calm = true) (ndN : X.N.Nodup) (hy : X.N[i]? = some y) (yl : X.env.scope.names.lookup y = some .local)
    (swap : swapsWith (.DictComp kx vx [⟨tg, iter, [], 0⟩] scope pos) (some (.Name y py)) spos.line X.env = pure true) (hi : PI X tg iter wi) (ok : BlkOk X.N X.env.scope scope own)
    (hg : ∀ (s : Shared) (H : Hp) (C : Addr) (cl : List (PySem.Str × Addr)) (fp : List Addr), PG (X.blk s H scope (compEnvC scope cl C X.env) fp) tg g)
    (hk : ∀ (s : Shared) (H : Hp) (C : Addr) (cl : List (PySem.Str × Addr)) (fp : List Addr), PE (X.blk s H scope (compEnvC scope cl C X.env) fp) kx tk)
    (hv : ∀ (s : Shared) (H : Hp) (C : Addr) (cl : List (PySem.Str × Addr)) (fp : List Addr), PE (X.blk s H scope (compEnvC scope cl C X.env) fp) vx tv) (fold : ∀ x, foldedSetIterable iter X.env x = pure x := by intro _; rfl) :
    PS X (.Assign [.Name y py] (.DictComp kx vx [⟨tg, iter, [], 0⟩] scope pos) spos) (tAsg (tDc wi g tYes tk tv (own.map (·.2))) (gName i)) := by
  refine ⟨fun pins s σ H D I h => ?_⟩
  rw [exec_Assign_Name_used _ _ _ _ swap]
  refine wpAny_bind (wpAny_standAt (wpAny_bind (show wpAny _ X.A (do let _ ← comprehension (.DictComp kx vx [⟨tg, iter, [], 0⟩] scope pos) scope X.env (firstIterPos [⟨tg, iter, [], 0⟩] pos) newDict false (eval iter X.env) (some (assign (.Name y py) X.env))) _ _ s from ?_)))
  refine wpAny_bind (thn (dc_core (Q := fun x H1 => gName i x σ H1 D.nx) (Qf := fun _ z => SP X pins D .next z) quiet ndN I hi ok hg (fun _ _ _ _ _ => pts_nil) hk hv fold h fun L C z m H' J q hn f => ?_) fun _ z hq => wpAny_pure (wpAny_pure hq))
  refine (show wpAny _ _ (assign (.Name y py) X.env (.ref L)) _ _ _ from wpAny_assign_Name (store_ok2 (v := V.ref L) J ndN hy (.inl yl) rfl (fun u J2 ⟨a, sb, ha⟩ => ?_) (.inr yl)))
  have other : C ≠ a := ha.elim (fun e => e ▸ f.2.1) fun e k => f.2.2.2.2.1 y a e k.symm
  exact ⟨m, hn.sameBut sb other, fun k sk => ⟨_, H', J2.turned (t' := u.toks) (fun b o hb e => (sk.2 b hb).trans e) f.1 f.2.1 f.2.2.2.1 f.2.2.2.2.1 f.2.2.2.2.2, q⟩⟩
theorem sw_dict {kx vx : Expr} {gs : List Comprehension} {scope : Scope} {pos py : Pos} {y : PySem.Str} {l : Nat} {env : Env} (hk : env.scope.kind = .function) (hy : env.scope.names.lookup y = some .local) (hl : (py.line == pos.line) = true)
    (ha : (scope.names.any fun (n, k) => n == y && (k == .local || k == .cell)) = false) : swapsWith (.DictComp kx vx gs scope pos) (some (.Name y py)) l env = pure true := by
  have k1 : env.kindOf y = some .local := hy
  have k2 : env.blockKind = .function := by unfold Env.blockKind; rw [hk]; rfl
  unfold swapsWith
  simp only [k2, k1, ha, Expr.pos, hl]
  rfl
/-- str(x) by an own __str__ -/
def rStrOwn (C : Addr) (sp : Sp) : List V → Hp → VK → Prop := fun xs H Q => ∃ (a dx : Addr) (fs : List (PySem.Str × V)), xs = [V.ref a] ∧ H a = some (.ins C dx fs) ∧ sp [.ref a] H (fun v H' => ∃ z, v = .str z ∧ Q v H') E0
theorem call_strOwn {C g : Addr} {gd : FuncData} {n : Nat} {sp : Sp} (hs : PySem.W.findIn X.K (.ref C) "__str__" = some (some (.ref g))) (hf : PySem.W.isFn X.K (.ref g) = true) (F : FnOk X.prog X.w X.K X.mg X.base CX0 n g gd ["self"] sp) (hb : Binds X.K gd ["self"] []) (hr : Room (n + 2) X.A) : CallR X (.type "str") (rStrOwn C sp) := by
  intro pins s σ H xs us Q I r h
  obtain ⟨a, dx, fs, rfl, ha, q⟩ := h
  obtain ⟨u, rfl, ru⟩ := vals1 r
  cases ru
  obtain ⟨mA, om, _⟩ := ins_get I.hok ha
  obtain ⟨od, J, _⟩ := om.look
  have room : Room n X.A.in1.in1 := (show Room (n + 1) X.A.in1 from Room.in1 hr).in1
  have hu : X.A.in1.in1.units < cLine := by have := room.un; omega
  have rv : Vals [V.ref a] [Value.ref a] := .cons rfl .nil
  refine PySem.W.kso_call hu I.kIn J hs hf (wpAny_call (codeAny_mono (F.run X.A.in1.in1 X.stack s H ⟨[.ref a], []⟩ [.ref a] [.ref a] _ E0 room I.env0.in1.in1 (hb s [.ref a] I.kIn rfl) rv q) fun r z hq => ?_))
  cases r with
  | error e => exact hq.elim
  | ok fl =>
    cases fl with
    | ret v =>
      obtain ⟨y, H', J2, ry, t, ey, fin⟩ := I.after hq
      subst ey
      obtain ⟨tk, rfl⟩ := (show ∃ tk, v = Value.str t tk from ry)
      exact ⟨.str t, H', J2, ⟨tk, rfl⟩, fin⟩
    | _ => exact False.elim hq
end
end SH

set_option Elab.async false
set_option linter.all false
set_option maxRecDepth 100000
namespace SW
open PySem PySem.SeqAt PySem.Spec PyProof.Rows
open AutoSeq1 (wpAny_loadPart')
open MeetsSeq MeetsSeq2 MeetsSeq3 SeqRoads2
section
variable {M : Model} {prog : Program} {w : World} {A : Around} {E : Value → Shared → Prop} {s : Shared} {K : PySem.W.Frag} {x C f : Addr} {ox : Obj} {od : Option Obj} {b tb : Value}
/-- the != that every class has, bound -/
theorem bound_ne {args : List Value} {Q : Option Value → Shared → Prop} (KX : K.In s.heap) (J : PySem.W.InstAt s.heap x ox C od) (hN : PySem.W.findIn K (.ref C) "__ne__" = some (some (.builtin "object.__ne__")))
    (h : wpAny M A (call (.builtin "object.__ne__") (.ref x :: args)) (fun v => Q (some v)) E s) : wpAny M A (callSpecialIfBound? (.ref x) "__ne__" args) Q E s := by
  simp only [bindSpecialIfBound?, callSpecialIfBound?]
  refine wpAny_holding (wpAny_bind (wpAny_bind (wpAny_bind (J.type.here ((PySem.W.looks_findIn KX hN).here (wpAny_bind (wpAny_askSetting (wpAny_ite ?_))))))))
  have last : wpAny M A (call (.builtin "object.__ne__") ([.ref x] ++ args) >>= fun v => pure (some v)) Q E s := wpAny_bind (wpAny_mono h (fun _ _ z => wpAny_pure z) fun _ _ z => z)
  split
  · exact wpAny_bind (wpAny_of_eq (F.cmp_object.ne.bind _) (wpAny_pure (by exact last)))
  · exact wpAny_tryCatch (wpAny_bind (wpAny_of_eq (F.cmp_object.ne.bind _) (wpAny_pure (by exact last))))
theorem ne_entry {Q : Fin → Shared → Prop} (KX : K.In s.heap) (J : PySem.W.InstAt s.heap x ox C od) (hE : PySem.W.findIn K (.ref C) "__eq__" = some (some (.ref f))) (hf : PySem.W.isFn K (.ref f) = true) (hu : A.units < cLine)
    (hc : wpAny M A (call (.ref f) [.ref x, b]) (fun v s' => ∃ r, v = .bool r ∧ Q (.done (.ret (.bool (!r)))) s') E s) : wpAny M A (Builtin.«object.__ne__» ⟨[.ref x, b], []⟩) Q E s := by
  unfold Builtin.«object.__ne__»
  repeat (first
    | with_reducible refine wpAny_cRoomFor hu ?_
    | (refine wpAny_bind (m := callSpecialIfBound? (.ref x) (Str.ofString "__eq__") [b]) (PySem.W.ifBound_K KX J hE hf (wpAny_mono hc (fun r s' z => by
          obtain ⟨t, rfl, q⟩ := z
          repeat (first | exact q | exact wpAny_pure q | exact wpAny_truthy_bool q | (refine wpAny_bind (m := truthy (.bool _)) (wpAny_truthy_bool ?_)) | wp_step)) fun _ _ z => z)))
    | wp_step)
theorem rc_ne {Q : Value → Shared → Prop} (hu : A.units + 1 < cLine) (KX : K.In s.heap) (J : PySem.W.InstAt s.heap x ox C od) (hb : PySem.W.Looks (model prog w) s.heap (typeOf b) tb) (hn : PySem.W.notFirst K C tb = true)
    (hN : PySem.W.findIn K (.ref C) "__ne__" = some (some (.builtin "object.__ne__"))) (hE : PySem.W.findIn K (.ref C) "__eq__" = some (some (.ref f))) (hf : PySem.W.isFn K (.ref f) = true) (hm : PySem.W.mroIn K C (.type "object") = some true)
    (hc : wpAny (model prog w) A.in1 (call (.ref f) [.ref x, b]) (fun v s' => ∃ r, v = .bool r ∧ Q (.bool (!r)) s') E s) : wpAny (model prog w) A (richCompare .NotEq (.ref x) b) Q E s := by
  have one : wpAny (model prog w) A (tryCompare (.ref x) "__ne__" b) (fun r s' => ∃ v, r = some v ∧ Q v s') E s := by
    unfold tryCompare
    refine wpAny_bind (bound_ne KX J hN (wpAny_call (codeAny_call_builtin F.cmp_object.ne.plain F.cmpEntry_ne (PySem.W.check_slot F.cmpKind_ne F.cmpSplit_ne (J.type.andThen (PySem.W.looks_mroIn KX hm)) (F.cmpArgs_ne _ _)
      (ne_entry (A := A.in1) KX J hE hf hu (wpAny_mono hc (fun v s' z => ?_) fun _ _ z => z))))))
    obtain ⟨r, rfl, q⟩ := z
    exact ⟨r, rfl, wpAny_pure ⟨_, rfl, q⟩⟩
  unfold richCompare
  simp only [oneThing_ref, cmpInfo_NotEq]
  refine wpAny_holding (wpAny_bind (wpAny_cRoomFor (by omega) (wpAny_bind (J.type.here (wpAny_bind (hb.here ?_))))))
  split
  · rename_i q
    have e : PySem.W.subIn K tb (.ref C) = some false := by
      rcases Bool.or_eq_true_iff.mp hn with e | e
      · rw [beq_iff_eq.mp e] at q
        simp at q
      · exact beq_iff_eq.mp e
    refine wpAny_bind ((PySem.W.looks_subIn KX e).here ?_)
    simp only [Bool.false_eq_true, if_false]
    refine wpAny_bind (wpAny_mono one (fun r s' z => ?_) fun _ _ z => z)
    obtain ⟨v, rfl, k⟩ := z
    exact wpAny_pure k
  · refine wpAny_bind (wpAny_pure ?_)
    simp only [Bool.false_eq_true, if_false]
    refine wpAny_bind (wpAny_mono one (fun r s' z => ?_) fun _ _ z => z)
    obtain ⟨v, rfl, k⟩ := z
    exact wpAny_pure k
/-- the right one's own == is asked where the left one, of a built-in type, knows nothing of it -/
theorem rc_back {u : Value} {T : String} {Q : Value → Shared → Prop} (hu : A.units < cLine) (KX : K.In s.heap) (J : PySem.W.InstAt s.heap x ox C od) (hT : s.TypeIs u T) (hs : PySem.W.mroIn K C (.type T) = some false)
    (hE : PySem.W.findIn K (.ref C) "__eq__" = some (some (.ref f))) (hf : PySem.W.isFn K (.ref f) = true) (no : wpAny (model prog w) A (tryCompare u "__eq__" (.ref x)) (fun r s' => r = none ∧ s' = s) E s)
    (hc : wpAny (model prog w) A (call (.ref f) [.ref x, u]) (fun v s' => ∃ r, v = .bool r ∧ Q (.bool r) s') E s) : wpAny (model prog w) A (richCompare .Eq u (.ref x)) Q E s := by
  have two : wpAny (model prog w) A (tryCompare (.ref x) "__eq__" u) (fun r s' => ∃ v, r = some v ∧ Q v s') E s := by
    unfold tryCompare
    refine wpAny_bind (PySem.W.ifBound_K KX J hE hf (wpAny_mono hc (fun v s' z => ?_) fun _ _ z => z))
    obtain ⟨r, rfl, q⟩ := z
    exact wpAny_pure ⟨_, rfl, q⟩
  simp only [richCompare, cmpInfo_Eq, hT.oneThing_none]
  refine wpAny_holding (wpAny_bind (wpAny_cRoomFor hu ?_))
  refine wpAny_bind (wpAny_typeOf hT (wpAny_bind (J.type.here ?_)))
  split
  · refine wpAny_bind ((PySem.W.looks_mroIn KX hs).here ?_)
    simp only [Bool.not_false, Bool.false_eq_true, if_true, if_false]
    refine wpAny_bind (m := tryCompare u _ (.ref x)) (wpAny_mono no (fun r s1 z => ?_) fun _ _ z => z)
    obtain ⟨rfl, rfl⟩ := z
    refine wpAny_bind (m := tryCompare (.ref x) _ u) (wpAny_mono two (fun r s2 z => ?_) fun _ _ z => z)
    obtain ⟨v, rfl, k⟩ := z
    exact wpAny_pure k
  · rename_i q
    exact absurd (by simp) q
/-- y is the one item of a list: is x in it? -/
theorem in_one {l : Addr} {y v : Value} {its : Array Value} {n : Nat} {dd : Option Addr} {sl : Array (Option Value)} {Q : Value → Shared → Prop} (i0 : its[0]? = some y) (hl : s.heap.get? l = some { cls := .type "list", dict := dd, data := .seq its n, slots := sl })
    (he : wpAny (model prog w) A.in1 (eqBool y v) (fun r s' => (∃ (its' : Array Value) (n' : Nat) (dd' : Option Addr) (sl' : Array (Option Value)), its'[1]? = none ∧ s'.heap.get? l = some { cls := .type "list", dict := dd', data := .seq its' n', slots := sl' }) ∧ Q (.bool r) s') E s) : wpAny (model prog w) A (compareOp .In v (.ref l)) Q E s := by
  show wpAny _ A (do return .bool (← contains (.ref l) v)) Q E s
  refine wpAny_bind (wpAny_contains_slot ⟨_, hl, rfl⟩ F.slot_list_contains (wpAny_mono (Q := fun z s' => ∃ r, z = .bool r ∧ Q (.bool r) s') (GQ.call_here F.slot_list_contains ⟨_, hl, rfl⟩ F.entry_list_contains (F.args_list_contains_2 _ _) ?_) (fun z s' hz => ?_) fun _ _ z => z))
  · obtain ⟨hp, g, d, tk, os⟩ := s
    wp_walk using wpAny_loadPart' hl
    refine ⟨plainId_quiet plain_contains_loop _, codeAny_builtin entry_contains_loop ?_⟩
    rw [Around.under_plainId plain_contains_loop _]
    have e0 : its[((0 : Nat) : Int).toNat]? = some y := i0
    have e0' : its[(0 : Int).toNat]? = some y := i0
    wp_walk using wpAny_loadPart' hl
    first | rw [e0] | rw [e0'] | rw [i0]
    refine wpAny_bind (wpAny_mono he (fun r s2 z => ?_) fun _ _ z => z)
    obtain ⟨⟨its', n', dd', sl', i1', hl2⟩, q⟩ := z
    obtain ⟨hp2, g2, d2, tk2, os2⟩ := s2
    cases r with
    | true =>
      wp_walk
      exact ⟨true, rfl, q⟩
    | false =>
      wp_walk
      refine ⟨plainId_quiet plain_contains_loop _, codeAny_builtin entry_contains_loop ?_⟩
      rw [Around.under_plainId plain_contains_loop _]
      have e1 : its'[((0 : Int) + 1).toNat]? = none := i1'
      wp_walk using wpAny_loadPart' hl2
      first | rw [e1] | rw [i1']
      wp_walk
      exact ⟨false, rfl, q⟩
  · obtain ⟨r, rfl, q⟩ := hz
    exact wpAny_truthy_bool (wpAny_pure q)
/-- what knows nothing of an instance -/
theorem no_none (hx : s.heap.get? x = some ox) : wpAny (model prog w) A (tryCompare .none "__eq__" (.ref x)) (fun r s' => r = none ∧ s' = s) E s :=
  wpAny_tryCompare_declines (T := "NoneType") rfl F.slot_NoneType_eq_refl (GQ.call_here F.slot_NoneType_eq_refl rfl F.entry_NoneType_eq (F.args_NoneType_eq_2 _ _) (by
    obtain ⟨hp, g, d, tk, os⟩ := s
    wp_walk
    exact ⟨rfl, rfl, rfl⟩))
theorem no_int {i : Int} {t : Tok} {dx : Addr} (hx : s.heap.get? x = some (PySem.W.instObj C dx)) : wpAny (model prog w) A (tryCompare (.int i t) "__eq__" (.ref x)) (fun r s' => r = none ∧ s' = s) E s :=
  wpAny_tryCompare_declines (T := "int") rfl F.slot_int_eq_refl (GQ.call_here F.slot_int_eq_refl rfl F.entry_int_eq (F.args_int_eq_2 _ _) (by
    obtain ⟨hp, g, d, tk, os⟩ := s
    wp_walk using wpAny_loadPart' hx, wpAny_load hx
    exact ⟨rfl, rfl, rfl⟩))
theorem no_bool {i : Bool} {dx : Addr} (hx : s.heap.get? x = some (PySem.W.instObj C dx)) : wpAny (model prog w) A (tryCompare (.bool i) "__eq__" (.ref x)) (fun r s' => r = none ∧ s' = s) E s :=
  wpAny_tryCompare_declines (T := "bool") rfl F.slot_bool_eq_refl (GQ.call_here F.slot_bool_eq_refl rfl F.entry_int_eq (F.args_int_eq_2 _ _) (by
    obtain ⟨hp, g, d, tk, os⟩ := s
    wp_walk using wpAny_loadPart' hx, wpAny_load hx
    exact ⟨rfl, rfl, rfl⟩))
theorem no_str {i : Str} {t : Tok} {dx : Addr} (hx : s.heap.get? x = some (PySem.W.instObj C dx)) : wpAny (model prog w) A (tryCompare (.str i t) "__eq__" (.ref x)) (fun r s' => r = none ∧ s' = s) E s :=
  wpAny_tryCompare_declines (T := "str") rfl F.slot_str_eq_refl (GQ.call_here F.slot_str_eq_refl rfl F.entry_str_eq (F.args_str_eq_2 _ _) (by
    obtain ⟨hp, g, d, tk, os⟩ := s
    wp_walk using wpAny_loadPart' hx, wpAny_load hx
    exact ⟨rfl, rfl, rfl⟩))
theorem no_list {l : Addr} {its : Array Value} {n : Nat} {dd : Option Addr} {sl : Array (Option Value)} (hl : s.heap.get? l = some { cls := .type "list", dict := dd, data := .seq its n, slots := sl }) (KX : K.In s.heap) (J : PySem.W.InstAt s.heap x ox C od) (hm : PySem.W.mroIn K C (.type "list") = some false) :
    wpAny (model prog w) A (tryCompare (.ref l) "__eq__" (.ref x)) (fun r s' => r = none ∧ s' = s) E s :=
  wpAny_tryCompare_declines (T := "list") ⟨_, hl, rfl⟩ F.slot_list_eq_refl (GQ.call_here F.slot_list_eq_refl ⟨_, hl, rfl⟩ F.entry_list_eq (F.args_list_eq_2 _ _) (by
    have e : PySem.W.Looks (model prog w) s.heap (isInstance (.ref x) (.type "list")) false := J.type.andThen (PySem.W.looks_mroIn KX hm)
    obtain ⟨hp, g, d, tk, os⟩ := s
    wp_walk using wpAny_loadPart' hl, e.here
    exact ⟨rfl, rfl, rfl⟩))
theorem no_tup {l : Addr} {its : Array Value} {n : Nat} {dd : Option Addr} {sl : Array (Option Value)} (hl : s.heap.get? l = some { cls := .type "tuple", dict := dd, data := .seq its n, slots := sl }) (KX : K.In s.heap) (J : PySem.W.InstAt s.heap x ox C od) (hm : PySem.W.mroIn K C (.type "tuple") = some false) :
    wpAny (model prog w) A (tryCompare (.ref l) "__eq__" (.ref x)) (fun r s' => r = none ∧ s' = s) E s :=
  wpAny_tryCompare_declines (T := "tuple") ⟨_, hl, rfl⟩ F.slot_tuple_eq_refl (GQ.call_here F.slot_tuple_eq_refl ⟨_, hl, rfl⟩ F.entry_tuple_eq (F.args_tuple_eq_2 _ _) (by
    have e : PySem.W.Looks (model prog w) s.heap (isInstance (.ref x) (.type "tuple")) false := J.type.andThen (PySem.W.looks_mroIn KX hm)
    obtain ⟨hp, g, d, tk, os⟩ := s
    wp_walk using wpAny_loadPart' hl, e.here
    exact ⟨rfl, rfl, rfl⟩))
end
end SW

set_option Elab.async false
set_option linter.all false
set_option maxRecDepth 100000
namespace SH
open PySem PySem.Spec PyProof.Rows L2
/-- a class with its own ==, and nothing else of that kind -/
structure OwnQ (K : PySem.W.Frag) (C f : Addr) : Prop where
  eq : PySem.W.findIn K (.ref C) "__eq__" = some (some (.ref f))
  fn : PySem.W.isFn K (.ref f) = true
  ne : PySem.W.findIn K (.ref C) "__ne__" = some (some (.builtin "object.__ne__"))
  obj : PySem.W.mroIn K C (.type "object") = some true
  li : PySem.W.mroIn K C (.type "list") = some false
  tu : PySem.W.mroIn K C (.type "tuple") = some false
  it : PySem.W.mroIn K C (.type "int") = some false
  bo : PySem.W.mroIn K C (.type "bool") = some false
  st : PySem.W.mroIn K C (.type "str") = some false
  no : PySem.W.mroIn K C (.type "NoneType") = some false
/-- a promise that gives a truth -/
def Tru (sp : Sp) (a : Addr) (y : V) (H : Hp) (Q : Bool → Hp → Prop) : Prop := sp [.ref a, y] H (fun z H' => ∃ r, z = .bl r ∧ Q r H') E0
section
variable {X : Cx} {n : Nat} {C f : Addr} {fd : FuncData} {ps : List PySem.Str} {sp : Sp} {pins : List (Addr × Obj)} {σ : L2.St} {H : Hp} {s : Shared}
theorem own_run (F : FnOk X.prog X.w X.K X.mg X.base CX0 n f fd ps sp) (hb : Binds X.K fd ps []) {A : Around} (sb : Sub X n A) (I : Inv X pins σ H s) {a : Addr} {y : V} {v : Value} (ry : RelV y v) {Q : Bool → Hp → Prop} (q : Tru sp a y H Q) :
    wpAny (model X.prog X.w) A (call (.ref f) [.ref a, v]) (fun r s' => ∃ z H', r = .bool z ∧ Inv X pins σ H' s' ∧ Q z H') X.xe s := by
  have e0 : Env0 X.prog X.w X.K X.mg X.base A X.stack s H := by
    have e := I.env0
    exact ⟨by rw [sb.fr]; exact e.frames, e.mod, e.bs, e.bsz, e.funs, e.frf, e.hok, e.bare⟩
  have hl := F.len _ _ _ _ q
  have rv : Vals [V.ref a, y] [Value.ref a, v] := .cons rfl (.cons ry .nil)
  refine wpAny_call (codeAny_mono (F.run A X.stack s H ⟨[.ref a, v], []⟩ [.ref a, v] [.ref a, y] _ E0 sb.room e0 (by
    have := hb s [.ref a, v] I.kIn (by simpa using hl)
    simpa using this) rv q) fun r s' hq => ?_)
  cases r with
  | error e => exact hq.elim
  | ok fl =>
    cases fl with
    | ret w =>
      obtain ⟨z, H', I', rz, t, rfl, k⟩ := I.after hq
      cases rz
      exact ⟨t, H', rfl, I', k⟩
    | next => exact False.elim hq
    | brk => exact False.elim hq
    | cont => exact False.elim hq
def rEqO (K : PySem.W.Frag) (C : Addr) (sp : Sp) (neg : Bool) : R2 := fun x y H Q => ∃ (a dx : Addr) (fs : List (PySem.Str × V)) (t : Value), x = .ref a ∧ H a = some (.ins C dx fs) ∧ TyX K H y t ∧ PySem.W.notFirst K C t = true ∧ Tru sp a y H fun r H' => Q (.bl (if neg then !r else r)) H'
theorem rc_own (T : OwnQ X.K C f) (F : FnOk X.prog X.w X.K X.mg X.base CX0 n f fd ps sp) (hb : Binds X.K fd ps []) {A : Around} (sb : Sub X n A) (I : Inv X pins σ H s) {a dx : Addr} {fs : List (PySem.Str × V)} {y : V} {v t : Value} (ha : H a = some (.ins C dx fs)) (ry : RelV y v) (ty : TyX X.K H y t) (nf : PySem.W.notFirst X.K C t = true) {Q : Bool → Hp → Prop} (q : Tru sp a y H Q) :
    wpAny (model X.prog X.w) A (richCompare .Eq (.ref a) v) (fun r s' => ∃ z H', r = .bool z ∧ Inv X pins σ H' s' ∧ Q z H') X.xe s := by
  obtain ⟨mA, om, _⟩ := ins_get I.hok ha
  obtain ⟨od, J, _⟩ := om.look
  obtain ⟨P, Z, p, _⟩ := kit_of I ry ty
  obtain ⟨m, hF⟩ := I.fr
  refine PySem.W.cmp_K (op := .Eq) sb.room.units0 hF I.ok.mod.kin J (Z.ty _ _ I.kIn p) nf T.eq T.fn (wpAny_mono (own_run F hb sb I ry q) (fun r s' z => ?_) fun _ _ z => z)
  obtain ⟨t, H', rfl, k⟩ := z
  exact ⟨t, H', rfl, k⟩
theorem op_eqO (T : OwnQ X.K C f) (F : FnOk X.prog X.w X.K X.mg X.base CX0 n f fd ps sp) (hb : Binds X.K fd ps []) (hr : Room n X.A) : OpR X (compareOp .Eq) (rEqO X.K C sp false) := by
  intro pins s σ H x y v u Q I rx ry h
  obtain ⟨a, dx, fs, t, rfl, ha, ty, nf, q⟩ := h
  cases rx
  refine (show wpAny (model X.prog X.w) X.A (richCompare .Eq (.ref a) u) _ _ s from wpAny_mono (rc_own T F hb ⟨hr, rfl⟩ I ha ry ty nf q) (fun r s' z => ?_) fun _ _ z => z)
  obtain ⟨t, H', rfl, I', k⟩ := z
  exact ⟨.bl t, H', I', rfl, k⟩
theorem op_neO (T : OwnQ X.K C f) (F : FnOk X.prog X.w X.K X.mg X.base CX0 n f fd ps sp) (hb : Binds X.K fd ps []) (hr : Room (n + 1) X.A) : OpR X (compareOp .NotEq) (rEqO X.K C sp true) := by
  intro pins s σ H x y v u Q I rx ry h
  obtain ⟨a, dx, fs, t, rfl, ha, ty, nf, q⟩ := h
  cases rx
  obtain ⟨mA, om, _⟩ := ins_get I.hok ha
  obtain ⟨od, J, _⟩ := om.look
  obtain ⟨P, Z, p, _⟩ := kit_of I ry ty
  have hu : X.A.units + 1 < cLine := hr.in1.units0
  refine (show wpAny (model X.prog X.w) X.A (richCompare .NotEq (.ref a) u) _ _ s from SW.rc_ne hu I.kIn J (Z.ty _ _ I.kIn p) nf T.ne T.eq T.fn T.obj (wpAny_mono (own_run F hb ⟨hr.in1, rfl⟩ I ry q) (fun r s' z => ?_) fun _ _ z => z))
  obtain ⟨t, H', rfl, I', k⟩ := z
  exact ⟨t, rfl, .bl (!t), H', I', rfl, k⟩
/-- b in [a], both of the class, not the same -/
def rInO (K : PySem.W.Frag) (C : Addr) (sp : Sp) : R2 := fun x y H Q => ∃ (a b l dx : Addr) (fs : List (PySem.Str × V)) (t : Value), x = .ref b ∧ y = .ref l ∧ b ≠ a ∧ H l = some (.lst [.ref a]) ∧ H a = some (.ins C dx fs) ∧ TyX K H x t ∧ PySem.W.notFirst K C t = true ∧ Tru sp a x H fun r H' => H' l = some (.lst [.ref a]) ∧ Q (.bl r) H'
theorem op_inO (T : OwnQ X.K C f) (F : FnOk X.prog X.w X.K X.mg X.base CX0 n f fd ps sp) (hb : Binds X.K fd ps []) (hr : Room (n + 1) X.A) : OpR X (compareOp .In) (rInO X.K C sp) := by
  intro pins s σ H x y v u Q I rx ry h
  obtain ⟨a, b, l, dx, fs, t, rfl, rfl, ne, hl, ha, ty, nf, q⟩ := h
  cases rx
  cases ry
  obtain ⟨_, its, n0, rv, hl1⟩ := (show ObjOk X.prog X.w H s.heap l (.lst [.ref a]) from I.hok l _ hl)
  obtain ⟨u1, e1, r1⟩ := vals1 rv
  subst e1
  cases r1
  refine SW.in_one (y := .ref a) rfl hl1 (GQ.eqBool_refG (Ne.symm ne) (wpAny_mono (rc_own T F hb ⟨hr.in1, rfl⟩ I ha (show RelV (.ref b) (.ref b) from rfl) ty nf q) (fun r s' z => ?_) fun _ _ z => z))
  obtain ⟨t, H', rfl, I', hl', k⟩ := z
  obtain ⟨_, its', n1, rv', hl2⟩ := (show ObjOk X.prog X.w H' s'.heap l (.lst [.ref a]) from I'.hok l _ hl')
  obtain ⟨u2, e2, _⟩ := vals1 rv'
  subst e2
  exact ⟨t, rfl, ⟨_, _, _, _, rfl, hl2⟩, .bl t, H', I', rfl, k⟩
/-- a thing of a built-in type -/
inductive Alien (H : Hp) : V → Prop where
  | non : Alien H .non
  | bl (b : Bool) : Alien H (.bl b)
  | int (i : Int) : Alien H (.int i)
  | str (z : PySem.Str) : Alien H (.str z)
  | lst {p : Addr} {xs : List V} (e : H p = some (.lst xs)) : Alien H (.ref p)
  | tup {p : Addr} {xs : List V} (e : H p = some (.tup xs)) : Alien H (.ref p)
theorem Alien.ty {K : PySem.W.Frag} {H : Hp} {C : Addr} {z : V} (h : Alien H z) : ∃ t, TyX K H z t ∧ PySem.W.notFirst K C t = true := by
  have no : ∀ T l, fastBuiltinMro T = some l → l.contains (Value.ref C) = false → PySem.W.notFirst K C (.type T) = true := fun T l e c => by
    have : PySem.W.subIn K (.type T) (.ref C) = some false := by
      show (fastBuiltinMro T).map (·.contains (.ref C)) = some false
      rw [e, Option.map_some, c]
    unfold PySem.W.notFirst
    rw [this]
    simp
  cases h with
  | non => exact ⟨_, .base .non, no "NoneType" [.type "NoneType", .type "object"] (by decide +kernel) (by simp)⟩
  | bl b => exact ⟨_, .base (.bl b), no "bool" [.type "bool", .type "int", .type "object"] (by decide +kernel) (by simp)⟩
  | int i => exact ⟨_, .base (.int i), no "int" [.type "int", .type "object"] (by decide +kernel) (by simp)⟩
  | str z => exact ⟨_, .base (.str z), no "str" [.type "str", .type "object"] (by decide +kernel) (by simp)⟩
  | lst e => exact ⟨_, .base (.lst e), no "list" [.type "list", .type "object"] (by decide +kernel) (by simp)⟩
  | tup e => exact ⟨_, .base (.tup e), no "tuple" [.type "tuple", .type "object"] (by decide +kernel) (by simp)⟩
theorem eq_alien (T : OwnQ X.K C f) (F : FnOk X.prog X.w X.K X.mg X.base CX0 n f fd ps sp) (hb : Binds X.K fd ps []) {A : Around} (sb : Sub X n A) (I : Inv X pins σ H s) {a dx : Addr} {fs : List (PySem.Str × V)} {z : V} {v : Value} (ha : H a = some (.ins C dx fs)) (rz : RelV z v) (al : Alien H z) {Q : Bool → Hp → Prop} (q : Tru sp a z H Q) :
    wpAny (model X.prog X.w) A (eqBool v (.ref a)) (fun r s' => ∃ H', Inv X pins σ H' s' ∧ Q r H') X.xe s := by
  obtain ⟨mA, om, _⟩ := ins_get I.hok ha
  obtain ⟨od, J, _⟩ := om.look
  have run := own_run F hb sb I rz q
  have hu := sb.room.units0
  have back : ∀ {T' : String}, s.TypeIs v T' → PySem.W.mroIn X.K C (.type T') = some false → wpAny (model X.prog X.w) A (tryCompare v "__eq__" (.ref a)) (fun r s' => r = none ∧ s' = s) X.xe s →
      wpAny (model X.prog X.w) A (richCompare .Eq v (.ref a)) (fun w s' => ∃ r H', w = .bool r ∧ Inv X pins σ H' s' ∧ Q r H') X.xe s := fun hT hm no =>
    SW.rc_back hu I.kIn J hT hm T.eq T.fn no (wpAny_mono run (fun w s' k => by
      obtain ⟨r, H', rfl, I', k⟩ := k
      exact ⟨r, rfl, r, H', rfl, I', k⟩) fun _ _ k => k)
  have flat : (v == Value.ref a) = false → (∀ bits tok, v ≠ .float bits tok) → wpAny (model X.prog X.w) A (richCompare .Eq v (.ref a)) (fun w s' => ∃ r H', w = .bool r ∧ Inv X pins σ H' s' ∧ Q r H') X.xe s →
      wpAny (model X.prog X.w) A (eqBool v (.ref a)) (fun r s' => ∃ H', Inv X pins σ H' s' ∧ Q r H') X.xe s := fun ne _ h => by
    unfold eqBool
    refine wpAny_holding (wpAny_ite_split (fun k => absurd k (by rw [ne]; simp)) fun _ => ?_)
    have go : wpAny (model X.prog X.w) A (do let r ← richCompare .Eq v (.ref a); truthOfDropped r) (fun r s' => ∃ H', Inv X pins σ H' s' ∧ Q r H') X.xe s := by
      refine wpAny_bind (wpAny_mono h (fun w s' k => ?_) fun _ _ k => k)
      obtain ⟨r, H', rfl, I', k⟩ := k
      exact wpAny_truthy_bool ⟨H', I', k⟩
    cases v <;> exact go
  cases al with
  | non =>
    cases rz
    exact flat rfl (fun _ _ k => nomatch k) (back rfl T.no (SW.no_none J.at_))
  | bl b =>
    cases rz
    exact flat rfl (fun _ _ k => nomatch k) (back rfl T.bo (SW.no_bool J.at_))
  | int i =>
    obtain ⟨t, rfl⟩ := rz
    exact flat rfl (fun _ _ k => nomatch k) (back rfl T.it (SW.no_int J.at_))
  | str i =>
    obtain ⟨t, rfl⟩ := rz
    exact flat rfl (fun _ _ k => nomatch k) (back rfl T.st (SW.no_str J.at_))
  | @lst p xs e =>
    cases rz
    obtain ⟨_, its, n0, _, hl⟩ := (show ObjOk X.prog X.w H s.heap p (.lst xs) from I.hok p _ e)
    have ne : p ≠ a := fun k => by
      rw [k, ha] at e
      cases e
    exact flat (by simpa using ne) (fun _ _ k => nomatch k) (back ⟨_, hl, rfl⟩ T.li (SW.no_list hl I.kIn J T.li))
  | @tup p xs e =>
    cases rz
    obtain ⟨_, its, _, o, h1, h2, n0, h3⟩ := (show ObjOk X.prog X.w H s.heap p (.tup xs) from I.hok p _ e)
    have ne : p ≠ a := fun k => by
      rw [k, ha] at e
      cases e
    obtain ⟨oc, od', dt, sl⟩ := o
    simp only at h2 h3
    subst h2 h3
    exact flat (by simpa using ne) (fun _ _ k => nomatch k) (back ⟨_, h1, rfl⟩ T.tu (SW.no_tup h1 I.kIn J T.tu))
/-- a in [z], z of a built-in type -/
def rInB (C : Addr) (sp : Sp) : R2 := fun x y H Q => ∃ (a l dx : Addr) (fs : List (PySem.Str × V)) (z : V), x = .ref a ∧ y = .ref l ∧ H l = some (.lst [z]) ∧ H a = some (.ins C dx fs) ∧ Alien H z ∧ Tru sp a z H fun r H' => H' l = some (.lst [z]) ∧ Q (.bl r) H'
theorem op_inB (T : OwnQ X.K C f) (F : FnOk X.prog X.w X.K X.mg X.base CX0 n f fd ps sp) (hb : Binds X.K fd ps []) (hr : Room (n + 1) X.A) : OpR X (compareOp .In) (rInB C sp) := by
  intro pins s σ H x y v u Q I rx ry h
  obtain ⟨a, l, dx, fs, z, rfl, rfl, hl, ha, al, q⟩ := h
  cases rx
  cases ry
  obtain ⟨_, its, n0, rv, hl1⟩ := (show ObjOk X.prog X.w H s.heap l (.lst [z]) from I.hok l _ hl)
  obtain ⟨u1, e1, r1⟩ := vals1 rv
  subst e1
  refine SW.in_one (y := u1) rfl hl1 (wpAny_mono (eq_alien T F hb ⟨hr.in1, rfl⟩ I ha r1 al q) (fun r s' k => ?_) fun _ _ k => k)
  obtain ⟨H', I', hl', k⟩ := k
  obtain ⟨_, its', n1, rv', hl2⟩ := (show ObjOk X.prog X.w H' s'.heap l (.lst [z]) from I'.hok l _ hl')
  obtain ⟨u2, e2, _⟩ := vals1 rv'
  subst e2
  exact ⟨⟨_, _, _, _, rfl, hl2⟩, .bl r, H', I', rfl, k⟩
end
end SH

set_option Elab.async false
set_option linter.all false
set_option maxRecDepth 100000
/-! repr of plain data; defs that ask for it, which are called where no such text is under way. -/
namespace SH
open PySem PySem.Spec PyProof.Rows L2
/-- a def's promise, where no guard stands around the call -/
structure FnG (P : Program) (w : World) (K : PySem.W.Frag) (mg : PySem.Str → Option Value) (base : Heap) (k : Nat) (f : Addr) (fd : FuncData) (ps : List PySem.Str) (sp : Sp) : Prop where
  len : ∀ vs H Q E, sp vs H Q E → vs.length = ps.length
  run : ∀ (A : Around) (outer : List Env) (s : Shared) (H : Hp) (args : Args) (us : List Value) (vs : List V) (Q : VK) (E : XK), A.guards = some [] → Room k A → Env0 P w K mg base A outer s H →
    BindsTo s fd args (ps.zip us) → Vals vs us → sp vs H Q E → codeAny (model P w) A (.call (.ref f) args) (CR CX0 outer P w H s Q E) s
section
variable {P : Program} {w : World} {K : PySem.W.Frag} {mg : PySem.Str → Option Value} {base : Heap}
theorem FnG.of {k : Nat} {f : Addr} {fd : FuncData} {ps : List PySem.Str} {sp : Sp} (F : FnOk P w K mg base CX0 k f fd ps sp) : FnG P w K mg base k f fd ps sp :=
  ⟨F.len, fun A outer s H args us vs Q E _ => F.run A outer s H args us vs Q E⟩
theorem FnG.mono {j k : Nat} {f : Addr} {fd : FuncData} {ps : List PySem.Str} {sp : Sp} (F : FnG P w K mg base j f fd ps sp) (h : j ≤ k) : FnG P w K mg base k f fd ps sp :=
  ⟨F.len, fun A outer s H args us vs Q E g r => F.run A outer s H args us vs Q E g (r.mono h)⟩
/-- a def of the text, by its body -/
theorem okG {x qual : PySem.Str} {st : Stmt} {f : Addr} {fd : FuncData} {N ps : List PySem.Str} {k : Nat} {sp : Sp} (F : Fun K x qual st f fd) (S : FnScope N ps (defScope st)) (len : ∀ vs H Q E, sp vs H Q E → vs.length = ps.length)
    (body : ∀ (cdv : Value) (A : Around) (outer : List Env) (s : Shared) (H : Hp) (vs : List V) (Q : VK) (E : XK), (A.deeper (envOfC qual (defScope st) s.heap.objs.size f cdv)).guards = some [] → Room k (A.deeper (envOfC qual (defScope st) s.heap.objs.size f cdv)) → sp vs H Q E →
      ∃ t, PSs (cxOf CX0 P w K mg base N qual (defScope st) f cdv A outer s H E).nox (defBody st) t ∧ t { nx := fun _ H' => Q .non H', rt := Q } (start N vs) H) : FnG P w K mg base (k + 1) f fd ps sp := by
  obtain ⟨oc, od, kV, doc, pm, an, cdv, ct, osl, rfl, look, code⟩ := F.ex
  refine ⟨len, ?_⟩
  intro A outer s H args us vs Q E gd room env bind rel want
  have many := len _ _ _ _ want
  have still : ∀ b o, base.get? b = some o → s.heap.get? b = some o := fun b o e => (env.bs b o e).1
  have inK := env.mod.kin.keeps still
  refine codeAny_call_function room.depth (inK _ _ look) rfl S.co S.gen rfl (PySem.W.codeRec_of inK code) (bind _ _ _ _ ?_)
  refine wpAny_newFunctionEnv_cells S.kind ?_ fun env' he s1 made => ?_
  · rintro ⟨n, v⟩ hy
    cases S.par n (List.of_mem_zip hy).1 with
    | inl q => exact .inl q
    | inr q => exact .inr ⟨q, PySem.W.cellsFrom_some _ _ _ (.inl q)⟩
  subst he
  refine ⟨(env.mod.nolimit.keeps still).keeps made.toInCall.keep, codeAny_func ?_⟩
  obtain ⟨t, ht, hq⟩ := body cdv A outer s H vs Q E gd (room.deeper _) want
  have begun : Inv (cxOf CX0 P w K mg base N qual (defScope st) f cdv A outer s H E) [] (start N vs) H s1 := inv_start S room.hd env many rel made
  refine wpAny_mono (ht.nox.run [] s1 _ H _ begun hq) (fun fl s' out => ?_) fun _ _ out => out
  cases fl with
  | ret u => exact let ⟨v, _, H', J, rv, q⟩ := out; ⟨v, H', J.os, J.bare, J.base, J.hok, rv, q⟩
  | next => exact let ⟨_, H', J, q⟩ := out; ⟨V.non, H', J.os, J.bare, J.base, J.hok, rfl, q⟩
  | brk => exact (let ⟨_, _, _, q⟩ := out; False.elim q)
  | cont => exact (let ⟨_, _, _, q⟩ := out; False.elim q)
end
section
variable {X : Cx}
/-- f(..) of such a def -/
theorem pe_callG {k : Nat} {f : Addr} {fd : FuncData} {ps : List PySem.Str} {sp : Sp} {x : PySem.Str} {p pos : Pos} {e : Expr} {es : List Expr} {t : TA} (F : FnG X.prog X.w X.K X.mg X.base k f fd ps sp) (gd : X.A.guards = some []) (hr : Room k X.A) (hg : Gl X x) (hm : X.mg x = some (.ref f)) (hk : PySem.W.keepIn X.K (.ref f) = true) (hb : Binds X.K fd ps [])
    (ha : PA X (e :: es) t) (hdb : (x == ("__debug__" : PySem.Str)) = false := by decide) (he : starEach (e :: es) X.env = (false, eval e X.env) :: starEach es X.env := by rfl) (hpl : (backTo pos (starEach es X.env)).any (·.1) = false := by rfl) :
    PE X (.Call (.Name x p) (e :: es) [] pos) (tCall sp [] E0 t) := by
  constructor
  intro pins s σ H Q I h
  refine wpAny_Call_Name_kw (ld_glob I hg hm ?_ hdb)
  refine PySem.W.callWith_K (h₀ := X.base) I.ok.mod.kin hk (thn (ha.run pos pins s σ H _ I h) ?_) he hpl
  rintro us s1 ⟨vs, H1, I1, r, q⟩
  rw [List.append_nil] at q
  refine ⟨I1.kIn, wpAny_call (codeAny_mono (F.run X.A X.stack s1 H1 ⟨us, []⟩ us vs Q E0 gd hr I1.env0 ?_ r q) fun r' s' hq => ?_)⟩
  · have := hb s1 us I1.kIn (by rw [List.append_nil, ← r.length]; exact F.len _ _ _ _ q)
    rwa [List.append_nil] at this
  · cases r' with
    | error e => exact False.elim hq
    | ok fl =>
      cases fl with
      | ret u => exact I1.after hq
      | next => exact False.elim hq
      | brk => exact False.elim hq
      | cont => exact False.elim hq
/-- repr(x), x a list or tuple of plain data -/
def rRepr (K : PySem.W.Frag) : List V → Hp → VK → Prop := fun xs H Q => ∃ (a : Addr) (d : PyData), xs = [.ref a] ∧ Dp K H (.ref a) d ∧ d.showable = true ∧ d.hasDict = false ∧ d.depth ≤ 60 ∧ d.shown.length ≤ sizeLine ∧ Q (.str d.shown) H
theorem call_reprD (gd : X.A.guards = some []) (hu : X.A.units + 64 < cLine) : CallR X (.builtin "repr") (rRepr X.K) := by
  intro pins s σ H xs us Q I r h
  obtain ⟨a, d, rfl, dp, sh, nd, de, sz, q⟩ := h
  obtain ⟨u, rfl, ru⟩ := vals1 r
  cases ru
  obtain ⟨as, rd⟩ := Dp.reads I d _ _ dp rfl
  refine repr_of_reads' rd sh (fun z => by rw [nd] at z; cases z) gd (by omega) (fun _ _ e => e) (fun h' t tk kp => ?_) sz
  exact ⟨.str d.shown, H, I.kept (t' := tk) kp, ⟨_, rfl⟩, q⟩
theorem call_reprK (K : PySem.W.Frag) (gd : X.A.guards = some []) (hu : X.A.units + 64 < cLine) (hK : X.K = K := by rfl) : CallR X (.builtin "repr") (rRepr K) := hK ▸ call_reprD gd hu
end
/-! ### the beginning -/
/-- the heap in which the script alone is known, and what comes of the law's end -/
theorem law_begin {P : Program} {w : World} {K : PySem.W.Frag} {mg mb : PySem.Str → Option Value} {a : Addr} {s₁ : Shared} {vs : List Value} {ns : List Int} (inK : K.In s₁.heap) (gl : s₁.heap.Ns mainGlobals mg) (bl : s₁.heap.Ns builtinsNs mb) (boot : ∀ x : PySem.Str, x ≠ "__name__" → mb x = bootBuiltins x) (nl : s₁.heap.NoLimit) (gens : s₁.gens = #[])
    (at_ : s₁.heap.get? a = some { cls := .type "list", data := .seq vs.toArray }) (hin : IntsAre vs ns) (few : ns.length ≤ sizeLine) :
    ∃ (H : Hp) (base : Heap), SqL K H a (ns.map V.int) ∧ Env0 P w K mg base callerA [] s₁ H ∧ K.In base ∧ base.Ns mainGlobals mg ∧ ∀ (r : Result) (s' : Shared), CR CX0 [] P w H s₁ (fun v _ => v = .bl true) E0 r s' → r = .ok (.ret (.bool true)) ∧ OldK s₁.heap s'.heap ∧ s'.os = s₁.os ∧ AllBare s'.gens := by
  have vals := vals_ints hin
  have many := hin.length
  -- any heap that knows no more than the script, as it lies there
  have any : ∀ H : Hp, (∀ b u, H b = some u → b = a ∧ K.lookup a = none ∧ ∃ o xs, u = .frz o xs) → SqL K H a (ns.map V.int) → HOk P w H s₁.heap →
      ∃ (H : Hp) (base : Heap), SqL K H a (ns.map V.int) ∧ Env0 P w K mg base callerA [] s₁ H ∧ K.In base ∧ base.Ns mainGlobals mg ∧ ∀ (r : Result) (s' : Shared), CR CX0 [] P w H s₁ (fun v _ => v = .bl true) E0 r s' → r = .ok (.ret (.bool true)) ∧ OldK s₁.heap s'.heap ∧ s'.os = s₁.os ∧ AllBare s'.gens := by
    intro H only sq ok
    have clear : ∀ {b : Addr} {o : Obj}, s₁.heap.get? b = some o → (b = a → K.lookup a = none → False) → (hidT s₁.heap H).get? b = some o := fun {b o} e no => by
      refine hidT_get e ?_
      cases q : H b with
      | none => rfl
      | some u => exact (no (only b u q).1 (only b u q).2.1).elim
    have ns' : ∀ {b : Addr} {m : PySem.Str → Option Value}, s₁.heap.Ns b m → (hidT s₁.heap H).Ns b m := by
      rintro b m ⟨o, es, ep, e, d, r⟩
      refine ⟨o, es, ep, clear e fun z _ => ?_, d, r⟩
      subst z
      rw [at_] at e
      cases e
      cases (show Data.seq vs.toArray _ = Data.dict es ep from d)
    have kb : K.In (hidT s₁.heap H) := fun b o e => clear (inK b o e) fun z n => by
      subst z
      rw [n] at e
      cases e
    refine ⟨H, hidT s₁.heap H, sq, ⟨rfl, ⟨kb, ns' gl, ⟨mb, ns' bl, boot⟩, ?_⟩, fun b o e => of_hidT e, Nat.le_of_eq (hidT_size _ _), trivial, ?_, ok, .of_eq gens⟩, kb, ns' gl, ?_⟩
    · obtain ⟨mc, h1, h2⟩ := nl
      exact ⟨mc, ns' h1, h2⟩
    · intro b hb
      cases (show b ∈ ([] : List Addr) from hb)
    · intro r s' h
      cases r with
      | error e => exact False.elim h
      | ok fl =>
        cases fl with
        | next => exact False.elim h
        | brk => exact False.elim h
        | cont => exact False.elim h
        | ret u =>
          obtain ⟨v, H', os, bare, un, ok', rv, q⟩ := h
          cases (show v = .bl true from q)
          cases (show u = Value.bool true from rv)
          refine ⟨rfl, OldK.of_keep fun b o e => ?_, os, bare⟩
          cases q : H b with
          | none => exact un.keep b o e q (fun z => by cases (show b ∈ ([] : List Addr) from z)) (by simp)
          | some u =>
            obtain ⟨_, _, ob, xs, rfl⟩ := only b u q
            have e1 := (ok b _ q).1
            rw [e] at e1
            cases e1
            exact (ok' b _ (un.frzs b _ _ q)).1
  cases look : K.lookup a with
  | some o =>
    have e := inK a o look
    rw [at_] at e
    cases e
    refine any (fun _ => none) (fun b u z => by cases z) ?_ (fun b u z => by cases (show (none : Option HO) = some u from z))
    exact .inr ⟨_, vs.toArray, _, look, rfl, rfl, rfl, by rw [List.size_toArray, many]; exact few, by simpa using vals⟩
  | none =>
    refine any (fun b => if b = a then some (.frz { cls := .type "list", data := .seq vs.toArray } (.lst (ns.map V.int))) else none) ?_ (.inl (.inr ⟨{ cls := .type "list", data := .seq vs.toArray }, if_pos rfl⟩)) ?_
    · intro b u z
      by_cases hb : b = a
      · rw [if_pos hb] at z
        cases z
        exact ⟨hb, look, _, _, rfl⟩
      · rw [if_neg hb] at z
        cases z
    · intro b u z
      by_cases hb : b = a
      · have z' := (if_pos hb).symm.trans z
        cases z'
        subst hb
        exact ⟨at_, by rw [List.length_map]; exact few, vs, _, vals, at_⟩
      · cases (if_neg hb).symm.trans z
/-- the law's walk, from such a promise of it -/
theorem walk_G {l : PySem.W.OpenLaw} {k : Nat} {q : Program} {loose : List PySem.Str} {XP : (PySem.Str → Option Value) → Heap → Prop} {YP : World → Heap → Prop} {d : DefRec} {K : Params → PySem.W.Frag} {sp : PySem.W.Frag → Sp} (most : l.most = some 63) (nodf : d.params.defaults = []) (room : Room k callerA)
    (hY : ∀ (w : World) (h : Heap), YP w h → (K w.params).In h)
    (F : ∀ (w : World) (mg : PySem.Str → Option Value) (fa : Addr) (h : Heap), (K w.params).In h → h.Ns mainGlobals mg → mg d.name = some (.ref fa) →
      ∃ fd : FuncData, (∀ (s : Shared) (u : Value), BindsTo s fd ⟨[u], []⟩ [("_law_script", u)]) ∧ ∀ base : Heap, (K w.params).In base → base.Ns mainGlobals mg → FnG l.prog w (K w.params) mg base k fa fd ["_law_script"] (sp (K w.params)))
    (hsp : ∀ (K : PySem.W.Frag) (H : Hp) (a : Addr) (ns : List Int), ns.length ≤ 63 → SqL K H a (ns.map V.int) → sp K [.ref a] H (fun v _ => v = .bl true) E0) :
    PySem.W.WalkO q loose XP YP l.row.toRowW d [] (fun f vs => PySem.call f vs) := by
  refine Att.attach_call most nodf fun w s₀ s₁ mg mb fa o pm cd doc a vs ns G Y ho hd hcd hmg hobj hints hlen hg => ?_
  obtain ⟨fd, hb, hF⟩ := F w mg fa _ (hY w _ Y) G.T.g hmg
  obtain ⟨H, base, sq, env, kb, nb, out⟩ := law_begin (P := l.prog) (w := w) (hY w _ Y) G.T.g G.T.b G.T.builtins G.T.nolimit hg hobj hints (Nat.le_trans hlen (by decide))
  exact codeAny_mono ((hF base kb nb).run callerA [] s₁ H ⟨[.ref a], []⟩ [.ref a] [.ref a] _ _ rfl room env (hb s₁ (.ref a)) (.cons rfl .nil) (hsp _ H a ns hlen sq)) out
end SH

set_option Elab.async false
set_option linter.all false
set_option maxRecDepth 100000
set_option maxHeartbeats 2000000
/-! Errors of one's own whose __init__ says super().__init__(f'..') and keeps its one argument: raw. -/
namespace SH
open PySem PySem.W PySem.Calls PySem.Spec PyProof.Rows PySem.HandSPX
section
variable {prog : Program} {w : World} {A : Around} {E : Value → Shared → Prop} {R : Result → Shared → Prop} {h : Heap} {g : Array GenState} {d : Drawn} {t : Nat} {os : OsState}
open Builtin Builtin.ObjectAttr
/-- the first field stored on an error, whatever built-in it comes of -/
theorem osaB {K : Frag} {name : PySem.Str} {tk : Tok} {v : Value} {x C : Addr} {fv : Array Value} {cd : ClassData}
    (X : K.In h) (hx : h.get? x = some { cls := .ref C, data := .fields fv }) (hcd : clsIn K C = some cd) (some_ : cd.mro.isEmpty = false) (obj : cd.mro.contains (.type "object") = true) (pass : ∀ self : Value, refuseLoop self "__setattr__" cd.mro = pure ()) (hh : cd.hasDict = true) (ha : findIn K (.ref C) name = some none)
    (out : ∀ h' tk' dx, (∀ b o, b ≠ x → h.get? b = some o → h'.get? b = some o) → h.objs.size ≤ dx → dx ≠ x → h'.get? x = some { cls := .ref C, dict := some dx, data := .fields fv } →
      h'.Ns1 dx (fun y => if y = name then some v else none) → R (.ok (.ret .none)) ⟨h', g, d, tk', os⟩) :
    codeAny (model prog w) A (.call (.builtin "object.__setattr__") ⟨[.ref x, .str name tk, v], []⟩) R ⟨h, g, d, t, os⟩ := by
  have I : InstAt h x { cls := .ref C, data := .fields fv } C none := ⟨hx, rfl, rfl, trivial⟩
  have xs : x ≠ h.objs.size := Nat.ne_of_lt (Heap.lt_size hx)
  have S := F.store_object
  have under : Looks (model prog w) h (isInstance (.ref x) (.type "object")) true := I.type.andThen (looks_mroIn X (by unfold mroIn; rw [hcd, Option.bind_some, if_neg (by rw [some_]; decide), obj]))
  have mro : Looks (model prog w) h (mroOf (.ref C)) cd.mro := (looks_clsIn X hcd).andThen .now
  have none_ : Looks (model prog w) h (storeTaker? none) none := .now
  have data : Looks (model prog w) h (classData C) cd := looks_clsIn X hcd
  refine codeAny_call_builtin S.slot.plain S.entry (@check_slot (model prog w) _ _ ⟨h, g, d, t, os⟩ "object.__setattr__" "object" "__setattr__" (.ref x) [.str name tk, v] [] _ S.kind S.split under (S.args (.ref x) (.str name tk) v) ?_)
  rw [osa_eq, refuse_eq]
  refine wpAny_bind (wpAny_bind (I.type.at (wpAny_bind (mro.at ?_))))
  rw [pass]
  refine wpAny_pure (wpAny_bind (I.type.at (wpAny_bind ((looks_findIn X ha).at (wpAny_bind (none_.at ?_))))))
  show wpAny _ _ (storeInOwnDict (.ref x) (.ref C) (.str name tk) name v false) _ _ _
  obtain ⟨_, _, _, _, _, hd, _, _, _, _, _⟩ := cd
  dsimp only at hh
  subst hh
  unfold storeInOwnDict ownDictForStores
  repeat (first | with_reducible refine store_in_new ?_ ?_ | with_reducible refine wpAny_loadPart_at hx ?_ | with_reducible refine data.at ?_ | wp_step)
  · exact ⟨_, #[], _,
      (Heap.get?_update_ne _ _ _ _ xs.symm).trans (Heap.get?_push_at rfl rfl), rfl,
      fun e he => absurd he (by simp), fun _ => rfl⟩
  · intro h' tk' ns same
    have there : (h.push { cls := .type "dict", data := .dict #[] }).get? x = some { cls := .ref C, data := .fields fv } := Heap.get?_push_of_some _ hx
    refine out h' tk' h.objs.size ?_ (Nat.le_refl _) xs.symm ((same.2 x xs).trans (Heap.get?_update_self _ there rfl)) ns
    intro b o hb ho
    exact (same.2 b (Nat.ne_of_lt (Heap.lt_size ho))).trans ((Heap.get?_update_ne _ _ _ _ hb).trans (Heap.get?_push_of_some _ ho))
/-- the bound __init__ of the built-in called: new args, nothing else -/
theorem call_mw {nm q : PySem.Str} {C N : Addr} {bs bm bmB : List Value} {hdct : Bool} {sn : List PySem.Str} {sub : List Value} {ab : Bool} {col : Option Bool} {dd : Option Addr} {k0 k1 k2 k3 k5 : Option Value} {B newId i : String} (FB : ExcBaseFacts B newId i bmB) (lt : i.startsWith "lifetime." = false) {u e t0 : Addr} {rest : List Value} {Q : Value → Shared → Prop}
    (hC : h.get? C = some (excClassObj nm q C N bs bm hdct sn sub ab col dd k0 k1 k2 k3 k5 newId)) (he : h.get? e = some (excO C t0)) (hu : h.get? u = some (kxs_mw i e)) (hz : rest.length ≤ sizeLine)
    (out : ∀ h' t1, (∀ b o, b ≠ e → h.get? b = some o → h'.get? b = some o) → h'.get? e = some (excO C t1) → Q .none ⟨h', g, d, t, os⟩) :
    wpAny (model prog w) A (call (.ref u) rest) Q E ⟨h, g, d, t, os⟩ := by
  refine wpAny_call (codeAny_of_tree ?_)
  show wpAny _ A.in1 (callAny (.ref u) ⟨rest, []⟩) _ _ _
  simp only [callAny]
  refine wpAny_bind (wpAny_load hu ?_)
  simp only [show (Value.type "method-wrapper" == Value.type "method" || Value.type "method-wrapper" == Value.type "builtin_function_or_method" || Value.type "method-wrapper" == Value.type "method-wrapper") = true by decide, if_true]
  refine KFB.if_so (by decide) ?_
  refine wpAny_bind (ESX.check_bound FB hC he rfl ?_)
  refine wpAny_bind (wpAny_pure (wpAny_pure ?_))
  refine ⟨Code.quiet_builtin _ lt, codeAny_builtin FB.initEntry ?_⟩
  rw [Around.under_plainId FB.init.plain _]
  wp_walk
  refine out _ h.objs.size ?_ ?_
  · intro b o hb ho
    rw [Heap.get?_update_other _ _ (Ne.symm hb)]
    exact Heap.get?_push_of_some _ ho
  · rw [Heap.get?_update_self _ (Heap.get?_push_of_some _ he) rfl]
    rfl
/-- what may stand in the f-string -/
def Fmt (v : Value) : Prop := (∃ y t, v = .str y t ∧ y.length ≤ 100000) ∨ ∃ i t, v = .int i t ∧ i.natAbs.log2 < 1920
theorem ldN {M : Model} {s : Shared} {env : Env} {m : PySem.Str → Option Value} {y : PySem.Str} {pos : Pos} {v : Value} {Q : Value → Shared → Prop} (hk : env.scope.kind = .function) (hl : env.kindOf y = some .local) (hn : s.heap.Ns env.locals m) (hv : m y = some v) (hd : (y == ("__debug__" : PySem.Str)) = false) (q : Q v s) : wpAny M A (eval (.Name y pos) env) Q E s := wpAny_Name (wpAny_loadName_local hk hl hn hv q) hd
/-- {f} -/
theorem fmt_any {s : Shared} {env : Env} {m : PySem.Str → Option Value} {f : PySem.Str} {pf pv : Pos} {v : Value} {Q : Value → Shared → Prop} (hk : env.scope.kind = .function) (hl : env.kindOf f = some .local) (hn : s.heap.Ns env.locals m) (hv : m f = some v) (hd : (f == ("__debug__" : PySem.Str)) = false) (hF : Fmt v)
    (q : ∀ (y : PySem.Str) (t tk : Nat), y.length ≤ 100000 → Q (.str y t) { s with toks := tk }) : wpAny (model prog w) A (eval (.FormattedValue (.Name f pf) (-1) none pv) env) Q E s := by
  have hs : sizeLine = 16777216 := by decide
  refine wpAny_FormattedValue_plain (ldN hk hl hn hv hd ?_)
  rcases hF with ⟨y, t, rfl, l⟩ | ⟨i, t, rfl, l⟩
  · exact wpAny_formatField_str (q y t s.toks l) (q y _ _ l) (by omega)
  · refine wpAny_formatField_int l (q _ _ _ ?_)
    have e := int_text_length_le (a := i) (k := 1920) (by decide) l
    rw [PySem.ofString_length]
    omega
/-- f'a{f}' and f'a{f}b' -/
theorem js_any {s : Shared} {env : Env} {m : PySem.Str → Option Value} {f a b : PySem.Str} {j1 j2 : Nat} {pf pv pa pb pos : Pos} {v : Value} {parts : List Expr} {Q : Value → Shared → Prop} (hp : parts = [.Constant (.str a) j1 pa, .FormattedValue (.Name f pf) (-1) none pv] ∨ parts = [.Constant (.str a) j1 pa, .FormattedValue (.Name f pf) (-1) none pv, .Constant (.str b) j2 pb])
    (la : a.length ≤ 1000) (lb : b.length ≤ 1000) (hk : env.scope.kind = .function) (hl : env.kindOf f = some .local) (hn : s.heap.Ns env.locals m) (hv : m f = some v) (hd : (f == ("__debug__" : PySem.Str)) = false) (hF : Fmt v)
    (q : ∀ (y : PySem.Str) (t tk : Nat), Q (.str y t) { s with toks := tk }) : wpAny (model prog w) A (eval (.JoinedStr parts pos) env) Q E s := by
  have hs : sizeLine = 16777216 := by decide
  have e0 : (Str.empty ++ a).length = a.length := by rw [strLen_append]; exact Nat.zero_add _
  have step : ∀ {e : Expr} {es : List Expr}, evalEach (e :: es) env = eval e env :: evalEach es env := fun {e es} => by first | rfl | simp [evalEach]
  have stop : evalEach [] env = [] := by first | rfl | simp [evalEach]
  have add : ∀ x y : PySem.Str, (x ++ y).length = x.length + y.length := fun x y => by rw [strLen_append]
  rcases hp with rfl | rfl
  · refine wpAny_JoinedStr ?_
    rw [step, step, stop]
    refine Calls.Constant_str ⟨a, _, rfl, by omega, ?_⟩
    refine fmt_any (s := { s with toks := _ }) hk hl hn hv hd hF fun y t tk ly => ⟨y, t, rfl, by rw [add]; omega, ?_⟩
    exact ⟨by rw [add]; omega, q _ _ _⟩
  · refine wpAny_JoinedStr ?_
    rw [step, step, step, stop]
    refine Calls.Constant_str ⟨a, _, rfl, by omega, ?_⟩
    refine fmt_any (s := { s with toks := _ }) hk hl hn hv hd hF fun y t tk ly => ⟨y, t, rfl, by rw [add]; omega, ?_⟩
    refine Calls.Constant_str ⟨b, _, rfl, by rw [add, add]; omega, ?_⟩
    exact ⟨by rw [add, add]; omega, q _ _ _⟩
end
end SH

set_option Elab.async false
set_option linter.all false
set_option maxRecDepth 100000
set_option maxHeartbeats 2000000
namespace SH
open PySem PySem.W PySem.Calls PySem.Spec PyProof.Rows PySem.HandSPX
/-! ### the text of such an __init__ -/
def supA (f : PySem.Str) (p1 p2 : Pos) : Arguments := { posonlyargs := [], args := [{ arg := "self", annotation := none, pos := p1 }, { arg := f, annotation := none, pos := p2 }], vararg := none, kwonlyargs := [], kw_defaults := [], kwarg := none, defaults := [] }
def supB (f : PySem.Str) (js : List Expr) (p0 p1 p2 p3 p4 p5 q1 q2 q3 q4 : Pos) : List Stmt :=
  [.Expr (.Call (.Attribute (.Call (.Name "super" p0) [] [] p1) "__init__" p2) [.JoinedStr js p3] [] p4) p5, .Assign [.Attribute (.Name "self" q1) f q2] (.Name f q3) q4]
def supS (f : PySem.Str) : Scope := { kind := .function, names := [(PySem.Str.ofString "self", .local), (f, .local), (PySem.Str.ofString "__class__", .free), (PySem.Str.ofString "super", .globalImplicit)], isGenerator := false, isCoroutine := false, more := [] }
/-- what the written part says of such a class, at C, and of its __init__, at fI; B the built-in that it comes of -/
structure SupC (prog : Program) (K : Frag) (mg : PySem.Str → Option Value) (x f : PySem.Str) (C fI : Addr) (B newId i : String) (bmB : List Value) : Prop where
  gC : mg x = some (.ref C)
  FB : ExcBaseFacts B newId i bmB
  KF : KxsFacts B i
  lt : i.startsWith "lifetime." = false
  cls : ∃ nm q N bs bm sn sub ab col dd k0 k1 k2 k3 k5, K.lookup C = some (excClassObj nm q C N bs bm true sn sub ab col dd k0 k1 k2 k3 k5 newId) ∧ (∀ X : String, bm.contains (.type X) = bmB.contains (.type X)) ∧ (∀ self : Value, refuseLoop self "__setattr__" bm = pure ()) ∧ alongIn K "__init__" bm = some (some (.builtin i)) ∧ bm.contains (.type "object") = true
  sa : findIn K (.ref C) "__setattr__" = some (some (.builtin "object.__setattr__"))
  noF : findIn K (.ref C) f = some none
  iC : findIn K (.ref C) "__init__" = some (some (.ref fI))
  tC : typeIn K (.ref fI) = some (.type "function")
  kC : keepIn K (.ref C) = true
  exC : subIn K (.ref C) (.type "BaseException") = some true
  tyC : typeIn K (.ref C) = some (.type "type")
  hB : subIn K (.ref C) (.type B) = some true
  op : nsIn K cStatics "thirdparty.any" = some none
  sup : mg "super" = none
  top : (prog.main.scope.names.lookup ("super" : PySem.Str)).isSome = false
  self : (f == ("self" : PySem.Str)) = false
  dbg : (f == ("__debug__" : PySem.Str)) = false
  n3 : (supS f).names.lookup ("super" : PySem.Str) = some .globalImplicit
  n4 : (supS f).names.lookup ("__class__" : PySem.Str) = some .free
  fn : ∃ (oc : Value) (od : Option Addr) (dV kV doc pm : Value) (an : Option Addr) (cda : Addr) (ct : Value) (osl : Array (Option Value)) (cc : Addr) (q : PySem.Str) (js : List Expr) (p1 p2 r0 r1 r2 r3 r4 r5 q1 q2 q3 q4 : Pos),
    K.lookup fI = some ⟨oc, od, .func (ksFn "__init__" q (supA f p1 p2) (supB f js r0 r1 r2 r3 r4 r5 q1 q2 q3 q4) (supS f) dV kV doc pm an (.ref cda) ct cc), osl⟩ ∧ codeIn K (.ref cda) q = true ∧ (r2.endLine == r4.line) = true ∧ (∀ u v : Value, bindArgs (ksFn "__init__" q (supA f p1 p2) (supB f js r0 r1 r2 r3 r4 r5 q1 q2 q3 q4) (supS f) dV kV doc pm an (.ref cda) ct cc) ⟨[u, v], []⟩ = pure [(PySem.Str.ofString "self", u), (f, v)]) ∧
    (∃ (ccl : Value) (cdd : Option Addr) (vs : Array Value) (ccs : Array (Option Value)) (file : PySem.Str) (tf : Tok), K.lookup cda = some ⟨ccl, cdd, .fields vs, ccs⟩ ∧ vs[2]? = some (.str file tf) ∧ ((prog.main.file : PySem.Str) == file) = true) ∧
    (∃ (cl : Value) (cld : Option Addr) (csl : Array (Option Value)), K.lookup cc = some ⟨cl, cld, .cell (some (.ref C)), csl⟩) ∧
    ∃ (a b : PySem.Str) (j1 j2 : Nat) (pf pv pa pb : Pos), a.length ≤ 1000 ∧ b.length ≤ 1000 ∧ (js = [.Constant (.str a) j1 pa, .FormattedValue (.Name f pf) (-1) none pv] ∨ js = [.Constant (.str a) j1 pa, .FormattedValue (.Name f pf) (-1) none pv, .Constant (.str b) j2 pb])
/-- what __init__ leaves of a fresh error at x -/
structure SupEnd (h h' : Heap) (x C dx t1 : Addr) (f : PySem.Str) (v : Value) : Prop where
  keep : ∀ b o, b ≠ x → h.get? b = some o → h'.get? b = some o
  obj : h'.get? x = some { cls := .ref C, dict := some dx, data := .fields #[.ref t1, .none, .none, .none, .bool false, .none] }
  dbig : h.objs.size ≤ dx
  dne : dx ≠ x
  ns : h'.Ns1 dx (fun y => if y = f then some v else none)
section
variable {prog : Program} {w : World} {A : Around} {E : Value → Shared → Prop} {R : Result → Shared → Prop} {s : Shared} {K : Frag} {mg mb : PySem.Str → Option Value} {x f : PySem.Str} {C fI : Addr} {B newId i : String} {bmB : List Value}
theorem sup_init (T : SupC prog K mg x f C fI B newId i bmB) {e t0 : Addr} {v : Value} (X : K.In s.heap) (gl : s.heap.Ns mainGlobals mg) (bl : s.heap.Ns builtinsNs mb) (boot : mb "super" = some (.type "super")) (lim : s.heap.NoLimit) (he : s.heap.get? e = some (excO C t0)) (new : K.lookup e = none) (hF : Fmt v) (room : A.depth < recursionLimit)
    (out : ∀ h' tk dx t1, SupEnd s.heap h' e C dx t1 f v → R (.ok (.ret .none)) { s with heap := h', toks := tk }) : codeAny (model prog w) A (.call (.ref fI) ⟨[.ref e, v], []⟩) R s := by
  obtain ⟨oc, od, dV, kV, doc, pm, an, cda, ct, osl, cc, q, js, p1, p2, r0, r1, r2, r3, r4, r5, q1, q2, q3, q4, lk, hcd, hline, hbind, ⟨ccl, cdd, vs, ccs, file, tf, lc, hvs, hfile⟩, ⟨cl, cld, csl, lcell⟩, a, b, j1, j2, pf, pv, pa, pb, la, lb, hjs⟩ := T.fn
  obtain ⟨nm, qn, N, bs, bm, sn, sub, ab, col, dd, k0, k1, k2, k3, k5, lC, hT, pass, along, obj⟩ := T.cls
  have hcl : clsIn K C = some { name := nm, bases := bs, mro := .ref C :: bm, ns := N, qualname := qn, hasDict := true, slotNames := sn, subclasses := sub, abstract := ab, collection := col, hasDel := false } := by unfold clsIn; rw [lC] <;> rfl
  have l1 : (supS f).names.lookup ("self" : PySem.Str) = some .local := by simp [supS, List.lookup]
  have l2 : (supS f).names.lookup f = some .local := by
    simp only [supS, List.lookup, T.self]
    simp
  refine ks_codeAny_call_defAt (fd := ksFn "__init__" q (supA f p1 p2) (supB f js r0 r1 r2 r3 r4 r5 q1 q2 q3 q4) (supS f) dV kV doc pm an (.ref cda) ct cc) (binds := [(PySem.Str.ofString "self", .ref e), (f, v)]) room (X _ _ lk) rfl lim (codeRec_of X hcd) rfl (BindsTo.of_eq (hbind _ _)) ?_ ?_ (fun h₁ ns k => ?_)
  · intro y hy
    simp [supS] at hy
    rcases hy with rfl | rfl | rfl | rfl <;> (intro z; cases z)
  · intro y hy
    simp at hy
    rcases hy with rfl | rfl
    · exact l1
    · exact l2
  have hn : h₁.Ns s.heap.objs.size (fun y => [(f, v), (PySem.Str.ofString "self", Value.ref e)].lookup y) := ns
  have v1 : [(f, v), (PySem.Str.ofString "self", Value.ref e)].lookup f = some v := by simp [List.lookup]
  have v2 : [(f, v), (PySem.Str.ofString "self", Value.ref e)].lookup (PySem.Str.ofString "self") = some (Value.ref e) := by
    have : (PySem.Str.ofString "self" == f) = false := by
      have z := T.self
      rw [beq_eq_false_iff_ne] at z ⊢
      exact fun y => z y.symm
    simp [List.lookup, this]
  have X₁ : K.In h₁ := X.keeps k
  have he₁ := k _ _ he
  have nL : s.heap.objs.size ≠ e := Nat.ne_of_gt (Heap.lt_size he)
  obtain ⟨hp, g, d, t, os⟩ := s
  dsimp only at *
  show _root_.PySem.wpAt _ _ _ (execs (supB f js r0 r1 r2 r3 r4 r5 q1 q2 q3 q4) _) _ _ _
  unfold supB
  refine ks_wpAt_execs_cons (ks_wpAt_Expr_any (ks_wpAt_MethodCall (pl := pure false) ?_ (by
    rw [arm_eval_Call]
    unfold methodCall methodCallPos
    rw [hline]
    simp only [Bool.or_true, if_true, pure_bind]
    rfl)))
  refine ks_wpAt_super_base T.n3 T.n4 (by decide) rfl (X₁ _ _ lk) rfl rfl rfl (X₁ _ _ lc) rfl hvs hfile T.top ?_
  refine ks_loadName_global rfl T.n3 (loadGlobal_builtin (gl.keeps k) T.sup (bl.keeps k) boot ⟨rfl, ?_⟩)
  refine wpAny_loadName_free rfl T.n4 rfl ⟨_, X₁ _ _ lcell, rfl⟩ ?_
  refine wpAny_loadName_local rfl l1 hn v2 ?_
  have oC := X₁ _ _ lC
  refine ks_wpAny_isType_cls oC rfl ⟨rfl, ?_⟩
  have hself : mroIn K C (.ref C) = some true := by
    unfold mroIn
    rw [hcl]
    simp
  have eC : e ≠ C := fun z => by
    rw [z, lC] at new
    cases new
  refine ks_wpAny_call_super oC rfl he₁ rfl (fun c z => by cases z) (looks_mroIn X₁ hself) (fun h₂ so k₂ => ?_)
  have X₂ : K.In h₂ := X₁.keeps k₂
  have he₂ := k₂ _ _ he₁
  have I₂ : InstAt h₂ e (excO C t0) C none := ⟨he₂, rfl, rfl, trivial⟩
  have mro₂ : Looks (model prog w) h₂ (mroOf (.ref C)) (.ref C :: bm) := (looks_clsIn X₂ hcl).andThen .now
  refine kxs_getMethod T.KF so (looks_opaque X₂ T.op) mro₂ (ESX.drop_own C bm) X₂ along (I₂.type.andThen (looks_subIn X₂ T.hB)) eC (by decide) ?_
  -- the text, and the call
  have k₃ : ∀ b o, h₂.get? b = some o → (h₂.push (kxs_mw i e)).get? b = some o := fun b o z => Heap.get?_push_of_some _ z
  have hu : (h₂.push (kxs_mw i e)).get? h₂.objs.size = some (kxs_mw i e) := Heap.get?_push_at rfl rfl
  refine kxs_callWith (i := i) (x := e) (by rfl) ?_
  refine evalArgs_plain ?_
  refine Calls.spliced_cons ?_
  refine js_any (pos := r3) (f := f) (v := v) (m := fun y => [(f, v), (PySem.Str.ofString "self", Value.ref e)].lookup y) hjs la lb (by rfl) (by exact l2) (hn.keeps fun b o z => k₃ b o (k₂ b o z)) v1 T.dbg hF fun y ty tk => ?_
  refine Calls.spliced_nil ⟨hu, ?_⟩
  refine call_mw T.FB T.lt (k₃ _ _ (k₂ _ _ oC)) (k₃ _ _ he₂) hu (by show 1 ≤ sizeLine; decide) fun h₄ t1 k₄ he₄ => ?_
  -- self.f = f
  have k14 : ∀ b o, b ≠ e → h₁.get? b = some o → h₄.get? b = some o := fun b o ne z => k₄ b o ne (k₃ b o (k₂ b o z))
  have X₄ : K.In h₄ := fun b o z => k14 b o (fun y => by rw [y, new] at z; cases z) (X₁ b o z)
  have hn₄ : h₄.Ns hp.objs.size (fun y => [(f, v), (PySem.Str.ofString "self", Value.ref e)].lookup y) := by
    obtain ⟨o, es, ep, z, zd, zr⟩ := hn
    exact ⟨o, es, ep, k14 _ _ nL z, zd, zr⟩
  refine ks_wpAt_execs_cons (ks_wpAt_Assign_Attr (wpAt_of_wpAny ?_))
  refine ldN (by rfl) (by exact l2) hn₄ v1 T.dbg ?_
  refine ldN (by rfl) (by exact l1) hn₄ v2 (by decide) ?_
  refine set_plain X₄ (ox := excO C t1) (od := none) ⟨he₄, rfl, rfl, trivial⟩ T.sa ?_
  refine osaB X₄ he₄ hcl rfl (by show (Value.ref C :: bm).contains (.type "object") = true; rw [List.contains_cons, obj, Bool.or_true]) (fun self => by rw [refuseLoop_ref]; exact pass self) rfl T.noF (fun h₅ tk₅ dx k₅ dn dne hx₅ hn₅ => ?_)
  refine wpAt_of_wpAny (wpAny_execs_nil ?_)
  have z := hn₄.lt
  have z' : hp.objs.size ≤ dx := Nat.le_trans (Nat.le_of_lt z) dn
  exact out h₅ tk₅ dx t1 ⟨fun b o ne y => k₅ b o ne (k14 b o ne (k b o y)), hx₅, z', dne, hn₅⟩
/-- a made error of this kind -/
structure SupMade (h h' : Heap) (e C d : Addr) (f : PySem.Str) (v : Value) : Prop where
  keep : ∀ b o, h.get? b = some o → h'.get? b = some o
  new : h.objs.size ≤ e
  obj : ∃ oe vs, h'.get? e = some oe ∧ oe.cls = .ref C ∧ oe.dict = some d ∧ oe.data = .fields vs ∧ vs[1]? = some .none
  dbig : h.objs.size ≤ d
  dne : d ≠ e
  ns : h'.Ns1 d (fun y => if y = f then some v else none)
theorem sup_made (T : SupC prog K mg x f C fI B newId i bmB) {v : Value} (X : K.In s.heap) (gl : s.heap.Ns mainGlobals mg) (bl : s.heap.Ns builtinsNs mb) (boot : mb "super" = some (.type "super")) (lim : s.heap.NoLimit) (hF : Fmt v) (room : A.depth + 1 < recursionLimit)
    (out : ∀ h' tk e d, SupMade s.heap h' e C d f v → R (.ok (.ret (.ref e))) { s with heap := h', toks := tk }) : codeAny (model prog w) A (.call (.ref C) ⟨[v], []⟩) R s := by
  obtain ⟨nm, qn, N, bs, bm, sn, sub, ab, col, dd, k0, k1, k2, k3, k5, lC, hT, pass, along, obj⟩ := T.cls
  obtain ⟨hp, g, dr, tk, os⟩ := s
  have kk : ∀ b o, hp.get? b = some o → ((hp.push (kdv_tup [v])).push (excO C hp.objs.size)).get? b = some o := fun b o z => Heap.get?_push_of_some _ (Heap.get?_push_of_some _ z)
  have there : ((hp.push (kdv_tup [v])).push (excO C hp.objs.size)).get? (hp.objs.size + 1) = some (excO C hp.objs.size) := by heap_get
  have fresh : K.lookup (hp.objs.size + 1) = none := by
    cases z : K.lookup (hp.objs.size + 1) with
    | none => rfl
    | some o =>
      have y : hp.objs.size + 1 < hp.objs.size := Heap.lt_size (X _ _ z)
      exact absurd (Nat.lt_of_succ_lt y) (Nat.lt_irrefl _)
  refine call_own T.FB hT (X _ _ lC) (looks_findIn X T.iC) (fun self => bind_fn X self T.tC) (by show 1 ≤ sizeLine; decide) ?_
  refine sup_init (s := ⟨(hp.push (kdv_tup [v])).push (excO C hp.objs.size), g, dr, tk, os⟩) T (X.keeps kk) (gl.keeps kk) (bl.keeps kk) boot (lim.keeps kk) there fresh hF room fun h' tk' dx t1 D => ?_
  have big : hp.objs.size + 1 + 1 ≤ dx := by
    have y := D.dbig
    rw [Heap.size_push, Heap.size_push] at y
    exact y
  refine ⟨rfl, out h' tk' (hp.objs.size + 1) dx ⟨fun b o y => D.keep b o (Nat.ne_of_lt (Nat.lt_succ_of_lt (Heap.lt_size y))) (kk b o y), Nat.le_succ _, ⟨_, _, D.obj, rfl, rfl, rfl, rfl⟩, ?_, D.dne, D.ns⟩⟩
  show hp.objs.size ≤ dx
  omega
end
end SH

set_option Elab.async false
set_option linter.all false
set_option maxRecDepth 100000
set_option maxHeartbeats 2000000
/-! raise X(e), X such an error, as a rule. -/
namespace SH
open PySem PySem.Spec PyProof.Rows L2
/-- what may be told in its text -/
def FmtV (v : V) : Prop := (∃ y : PySem.Str, v = .str y ∧ y.length ≤ 100000) ∨ ∃ i : Int, v = .int i ∧ i.natAbs.log2 < 1920
theorem FmtV.fmt {v : V} {u : Value} (h : FmtV v) (r : RelV v u) : Fmt u := by
  rcases h with ⟨y, rfl, l⟩ | ⟨i, rfl, l⟩
  · obtain ⟨t, rfl⟩ := r
    exact .inl ⟨y, t, rfl, l⟩
  · obtain ⟨t, rfl⟩ := r
    exact .inr ⟨i, t, rfl, l⟩
section
variable {X : Cx} {x f : PySem.Str} {C fI : Addr} {B newId i : String} {bmB : List Value}
/-- X(e) -/
def tMkS (C : Addr) (f : PySem.Str) (ta : TA) : L2.St → Hp → XK → Prop := fun σ H Q => ta σ H fun vs H1 => ∃ v, vs = [v] ∧ FmtV v ∧ ∀ d, H1 d = none → Q (.ref C) (some d) (upd H1 d (.xd [(f, v)]))
theorem pmk_sup {a : Expr} {ta : TA} {p pos : Pos} {k : Nat} (T : SupC X.prog X.K X.mg x f C fI B newId i bmB) (hr : Room k X.A) (ha : PA X [a] ta) (hg : Gl X x) (hdb : (x == ("__debug__" : PySem.Str)) = false := by decide)
    (he : starEach (a :: []) X.env = (false, eval a X.env) :: starEach [] X.env := by rfl) (hpl : (backTo pos (starEach [] X.env)).any (·.1) = false := by rfl) :
    PMk X (.Call (.Name x p) [a] [] pos) (tMkS C f ta) := by
  intro pins s σ H Q I h
  refine wpAny_Call_Name_kw (ld_glob I hg T.gC ?_ hdb)
  refine PySem.W.callWith_K (h₀ := X.base) I.ok.mod.kin T.kC (thn (ha.run pos pins s σ H _ I h) ?_) he hpl
  rintro us s1 ⟨vs, H1, I1, r1, v, rfl, fv, q1⟩
  refine ⟨I1.kIn, ?_⟩
  obtain ⟨u, rfl, ru⟩ := vals1 r1
  show wpAny _ _ (call (.ref C) [u]) _ _ _
  have lim := I1.nolimit
  have gl := I1.ok.mod.glob.keeps I1.bk
  obtain ⟨mb, bl0, boot⟩ := I1.ok.mod.blt
  have bl := bl0.keeps I1.bk
  have sup : mb "super" = some (.type "super") := (boot _ (by decide)).trans (by decide +kernel)
  have kIn := I1.kIn
  obtain ⟨hp, g, dr, tk, os⟩ := s1
  refine wpAny_call (sup_made T kIn gl bl sup lim (fv.fmt ru) (by have := hr.dp; omega) fun h' tk' e d M => ?_)
  show MkP X pins σ Q (.ref e) ⟨h', g, dr, tk', os⟩
  obtain ⟨oe, vs, hoe, hc, hd, hdat, h1⟩ := M.obj
  have hns := M.ns
  -- all but the error itself
  obtain ⟨G', g1, g2⟩ := restrict h' fun b => decide (b ≠ e)
  have same : ∀ b, b ≠ e → G'.get? b = h'.get? b := fun b hb => g1 b (decide_eq_true hb)
  have gone : G'.get? e = none := g2 e (by simp)
  have old : ∀ b o, hp.get? b = some o → G'.get? b = some o := fun b o z => (same b (Nat.ne_of_lt (Nat.lt_of_lt_of_le (Heap.lt_size z) M.new))).trans (M.keep b o z)
  have ob : ObjOk X.prog X.w (upd H1 d (.xd [(f, v)])) G' d (.xd [(f, v)]) := ⟨_, hns.at (fun o z => (same d M.dne).trans z), relO_put (fs := []) ru fun _ => True.intro⟩
  have J : L2.Inv X pins σ (upd H1 d (.xd [(f, v)])) ⟨G', g, dr, tk', os⟩ := I1.laid (t' := tk') old M.dbig ob
  refine ⟨e, oe, vs, ⟨G', g, dr, tk', os⟩, _, .ref C, some d, rfl, J, ?_, gone, hoe, ⟨hc, hd⟩, hdat, h1, ?_, rfl, I1.bare, raises_own T.exC T.tyC, q1 d (I1.hok.fresh M.dbig)⟩
  · intro b o z
    by_cases hb : b = e
    · rw [hb] at z
      have z' : G'.get? e = some o := z
      rw [gone] at z'
      cases z'
    · exact (same b hb).symm.trans z
  · rw [upd_ne (Ne.symm M.dne)]
    exact I1.hok.fresh M.new
/-- raise X(e) -/
def tRaiseS (C : Addr) (f : PySem.Str) (W : WX) (ta : TA) : TS := fun _ σ H => tMkS C f ta σ H fun cls d H' => W cls d σ H'
theorem ps_raiseS {a : Expr} {ta : TA} {W : WX} {p pos pos2 : Pos} {k : Nat} (hc : X.calm = true) (T : SupC X.prog X.K X.mg x f C fI B newId i bmB) (hr : Room k X.A) (tk : Takes X W) (ha : PA X [a] ta) (hg : Gl X x) (hdb : (x == ("__debug__" : PySem.Str)) = false := by decide)
    (he : starEach (a :: []) X.env = (false, eval a X.env) :: starEach [] X.env := by rfl) (hpl : (backTo pos (starEach [] X.env)).any (·.1) = false := by rfl) :
    PS X (.Raise (some (.Call (.Name x p) [a] [] pos)) none pos2) (tRaiseS C f W ta) := ps_raise hc tk (pmk_sup T hr ha hg hdb he hpl)
end
end SH

set_option Elab.async false
set_option linter.all false
set_option maxRecDepth 100000
set_option maxHeartbeats 2000000
/-! Defs that are handed a caught error, within an except suite; isinstance of it there. -/
namespace SH
open PySem PySem.Spec PyProof.Rows L2
/-- a def's promise where p's object, an error, stands in the state and may be handed -/
structure FnE (P : Program) (w : World) (K : PySem.W.Frag) (mg : PySem.Str → Option Value) (base : Heap) (k : Nat) (f : Addr) (fd : FuncData) (ps : List PySem.Str) (sp : Addr → Value → Option Addr → Sp) : Prop where
  len : ∀ a cls d vs H Q E, sp a cls d vs H Q E → vs.length = ps.length
  run : ∀ (A : Around) (outer : List Env) (s : Shared) (H : Hp) (args : Args) (us : List Value) (vs : List V) (Q : VK) (E : XK) (p : Addr × Obj) (cls : Value) (d : Option Addr), L2H.RoomH k A → L2H.PinOk outer H s p → Zc cls d p.2 → (∃ vs, p.2.data = .fields vs) → Env0 P w K mg base A outer s H →
    BindsTo s fd args (ps.zip us) → Vals vs us → sp p.1 cls d vs H Q E → codeAny (model P w) A (.call (.ref f) args) (CR CX0 outer P w H s Q E) s
section
variable {P : Program} {w : World} {K : PySem.W.Frag} {mg : PySem.Str → Option Value} {base : Heap}
theorem okE {x qual : PySem.Str} {st : Stmt} {f : Addr} {fd : FuncData} {N ps : List PySem.Str} {k : Nat} {sp : Addr → Value → Option Addr → Sp} (F : Fun K x qual st f fd) (S : FnScope N ps (defScope st)) (len : ∀ a cls d vs H Q E, sp a cls d vs H Q E → vs.length = ps.length)
    (body : ∀ (cdv : Value) (A : Around) (outer : List Env) (s : Shared) (H : Hp) (vs : List V) (Q : VK) (E : XK) (p : Addr × Obj) (cls : Value) (d : Option Addr), Zc cls d p.2 → (∃ vs, p.2.data = .fields vs) → L2H.RoomH k (A.deeper (envOfC qual (defScope st) s.heap.objs.size f cdv)) → sp p.1 cls d vs H Q E →
      ∃ t, PSs (L2H.cxH CX0 P w K mg base N qual (defScope st) f cdv A outer s H E p) (defBody st) t ∧ t { nx := fun _ H' => Q .non H', rt := Q } (start N vs) H) : FnE P w K mg base (k + 1) f fd ps sp := by
  obtain ⟨oc, od, kV, doc, pm, an, cdv, ct, osl, rfl, look, code⟩ := F.ex
  refine ⟨len, ?_⟩
  intro A outer s H args us vs Q E p cls d room pin hz hf env bind rel want
  have many := len _ _ _ _ _ _ _ want
  have still : ∀ b o, base.get? b = some o → s.heap.get? b = some o := fun b o e => (env.bs b o e).1
  have inK := env.mod.kin.keeps still
  refine codeAny_call_function room.depth (inK _ _ look) rfl S.co S.gen rfl (PySem.W.codeRec_of inK code) (bind _ _ _ _ ?_)
  refine wpAny_newFunctionEnv_cells S.kind ?_ fun env' he s1 made => ?_
  · rintro ⟨n, v⟩ hy
    cases S.par n (List.of_mem_zip hy).1 with
    | inl q => exact .inl q
    | inr q => exact .inr ⟨q, PySem.W.cellsFrom_some _ _ _ (.inl q)⟩
  subst he
  refine ⟨(env.mod.nolimit.keeps still).keeps made.toInCall.keep, codeAny_func ?_⟩
  obtain ⟨t, ht, hq⟩ := body cdv A outer s H vs Q E p cls d hz hf (room.deeper _) want
  have begun : L2.Inv (L2H.cxH CX0 P w K mg base N qual (defScope st) f cdv A outer s H E p) [] (start N vs) H s1 := L2H.inv_startH S pin env many rel made
  refine wpAny_mono (ht.run [] s1 _ H _ begun hq) (fun fl s' out => ?_) fun _ _ out => out
  cases fl with
  | ret u => exact let ⟨v, _, H', J, rv, q⟩ := out; ⟨v, H', J.os, J.bare, J.base, J.hok, rv, q⟩
  | next => exact let ⟨_, H', J, q⟩ := out; ⟨V.non, H', J.os, J.bare, J.base, J.hok, rfl, q⟩
  | brk => exact (let ⟨_, _, _, q⟩ := out; False.elim q)
  | cont => exact (let ⟨_, _, _, q⟩ := out; False.elim q)
end
section
variable {X : Cx}
/-- f(e, ..) in a suite that holds the error at a -/
theorem pe_callE {k : Nat} {a : Addr} {oe : Obj} {pn : List (Addr × Obj)} {f : Addr} {fd : FuncData} {ps : List PySem.Str} {sp : Addr → Value → Option Addr → Sp} {cls : Value} {d : Option Addr} (hz : Zc cls d oe) (hf : ∃ vs, oe.data = .fields vs) {x : PySem.Str} {p pos : Pos} {e : Expr} {es : List Expr} {t : TA} (F : FnE X.prog X.w X.K X.mg X.base k f fd ps sp) (hr : L2H.RoomH k (X.suite a ((a, oe) :: pn)).A) (hg : Gl (X.suite a ((a, oe) :: pn)) x) (hm : X.mg x = some (.ref f)) (hk : PySem.W.keepIn X.K (.ref f) = true) (hb : Binds X.K fd ps [])
    (ha : PA (X.suite a ((a, oe) :: pn)) (e :: es) t) (hdb : (x == ("__debug__" : PySem.Str)) = false := by decide) (he : starEach (e :: es) X.env = (false, eval e X.env) :: starEach es X.env := by rfl) (hpl : (backTo pos (starEach es X.env)).any (·.1) = false := by rfl) :
    PE (X.suite a ((a, oe) :: pn)) (.Call (.Name x p) (e :: es) [] pos) (tCall (sp a cls d) [] E0 t) := by
  constructor
  intro pins s σ H Q I h
  refine wpAny_Call_Name_kw (ld_glob I hg hm ?_ hdb)
  refine PySem.W.callWith_K (h₀ := X.base) I.ok.mod.kin hk (thn (ha.run pos pins s σ H _ I h) ?_) he hpl
  rintro us s1 ⟨vs, H1, I1, r, q⟩
  rw [List.append_nil] at q
  have P1 := I1.pin (a, oe) (List.mem_append_left _ List.mem_cons_self)
  have pin : L2H.PinOk (X.suite a ((a, oe) :: pn)).stack H1 s1 (a, oe) := ⟨P1.1, P1.2.1, fun hm => (List.mem_cons.mp (I1.stkSub a hm)).elim P1.2.2.1 P1.2.2.2.1, P1.2.2.2.2⟩
  refine ⟨I1.kIn, wpAny_call (codeAny_mono (F.run _ _ s1 H1 ⟨us, []⟩ us vs Q E0 (a, oe) cls d hr pin hz hf I1.env0 ?_ r q) fun r' s' hq => ?_)⟩
  · have := hb s1 us I1.kIn (by rw [List.append_nil, ← r.length]; exact F.len _ _ _ _ _ _ _ q)
    rwa [List.append_nil] at this
  · cases r' with
    | error e => exact False.elim hq
    | ok fl =>
      cases fl with
      | ret u => exact I1.after hq
      | next => exact False.elim hq
      | brk => exact False.elim hq
      | cont => exact False.elim hq
/-- what the class of an error says, so that isinstance looks at it rightly -/
structure ErC (K : PySem.W.Frag) (D : Addr) : Prop where
  cl : (PySem.W.clsIn K D).isSome = true
  hg : PySem.W.findIn K (.ref D) "__getattribute__" = some (some (.builtin "BaseException.__getattribute__"))
  hk : PySem.W.findIn K (.ref D) "__getattr__" = some none
  hs : PySem.W.subIn K (.ref D) (.type "BaseException") = some true
  ha : PySem.W.findIn K (.ref D) "__class__" = some (some (.builtin "object.__class__"))
  hn : PySem.W.specialIn K (.builtin "object.__class__") "__get__" = some (some (.builtin "getset_descriptor.__get__"))
  ht : PySem.W.takesIn K (.builtin "object.__class__") = some true
  hm : PySem.W.mroIn K D (.type "object") = some true
/-- isinstance(e, c), e a pinned error of the class at D, its dict at dd -/
def rIsP (K : PySem.W.Frag) (D a dd : Addr) : List V → Hp → VK → Prop := fun xs H Q => ∃ (c : V) (cv : Value) (b : Bool) (fs : List (PySem.Str × V)), xs = [.ref a, c] ∧ (∀ u, RelV c u → u = cv) ∧ H dd = some (.xd fs) ∧ PySem.W.kitOne K (.ref D) cv = some b ∧ Q (.bl b) H
theorem call_isP {a D dd : Addr} {oe : Obj} (C : ErC X.K D) (hz : Zc (.ref D) (some dd) oe) (hf : ∃ vs, oe.data = .fields vs) (hp : (a, oe) ∈ X.pn) : CallR X (.builtin "isinstance") (rIsP X.K D a dd) := by
  intro pins s σ H xs us Q I r h
  obtain ⟨c, cv, b, fs, rfl, hcv, hd, e, q⟩ := h
  cases r with
  | cons rx rr =>
    cases rr with
    | cons rt rr =>
      cases rr
      cases rx
      have ec := hcv _ rt
      subst ec
      obtain ⟨hget, _⟩ := I.pin (a, oe) (List.mem_append.mpr (.inl hp))
      obtain ⟨mA, hns, _⟩ := (show ObjOk X.prog X.w H s.heap dd (.xd fs) from I.hok dd _ hd)
      obtain ⟨od, ho, _⟩ := lookIn_ns hns
      obtain ⟨vs, hv⟩ := hf
      have J : PySem.W.InstAt s.heap a oe D (some od) := ⟨hget, hz.1, by unfold PySem.W.notCls; rw [hv] <;> rfl, by rw [hz.2]; exact ho⟩
      exact PySem.W.kia_one (PySem.W.kitx_exc C.cl C.hg C.hk C.hs C.ha C.hn C.ht C.hm) I.kIn J e (fun z => nomatch z) fun tk => ⟨.bl b, H, I.kept (t' := tk) fun _ _ z => z, rfl, q⟩
/-- o.m(e, ..), what it raises wished for at the caller's slots -/
def tMethX (C : Addr) (m : PySem.Str) (sp : Sp) (E : L2.St → XK) (ta : TE) (t : TA) : TE := fun σ H Q => ta σ H fun x H1 => ∃ a dx fs, x = .ref a ∧ H1 a = some (.ins C dx fs) ∧ fs.lookup m = none ∧ t σ H1 fun vs H2 => sp (x :: vs) H2 Q (E σ)
theorem pe_methX {CX : CXT} {k : Nat} {f C : Addr} {fd : FuncData} {ps : List PySem.Str} {sp : Sp} {E : L2.St → XK} {m : PySem.Str} {pos apos : Pos} {e o : Expr} {es : List Expr} {ta : TE} {t : TA} {pl : Sem Bool} (he : PE X o ta) (c : Cls X.K C) (hm : Meth X.K C m f) (F : FnOk X.prog X.w X.K X.mg X.base CX k f fd ps sp) (hr : Room k X.A) (hb : Binds X.K fd ps []) (hx : ∀ σ, PassesAt CX X σ (E σ)) (ha : PA X (e :: es) t)
    (hst : starEach (e :: es) X.env = (false, eval e X.env) :: starEach es X.env := by rfl) (hpl : (backTo pos (starEach es X.env)).any (·.1) = false := by rfl)
    (ht : eval (.Call (.Attribute o m apos) (e :: es) [] pos) X.env = (do
      let ov ← eval o X.env
      standAt apos.atName
      let (f, first) ← holding [ov] (getMethod ov m pl)
      callWith pos f first (backTo pos (starEach (e :: es) X.env)) (backToKw pos (keywordEach [] X.env))) := by rfl) :
    PE X (.Call (.Attribute o m apos) (e :: es) [] pos) (tMethX C m sp E ta t) := by
  constructor
  intro pins s σ H Q I h
  refine PySem.W.methodCall_KW (pl := pl) (thn (he.run pins s σ H _ I h) ?_) ht
  rintro u s1 ⟨x, H1, I1, rx, a, dx, fs, rfl, ea, l, q⟩
  obtain rfl : u = Value.ref a := rx
  refine getmeth_ok I1 ea c hm l (PySem.W.callWith_K (first := [.ref a]) (h₀ := X.base) I.ok.mod.kin hm.kp (thn (ha.run pos pins s1 σ H1 _ I1 q) ?_) hst hpl)
  rintro us s2 ⟨vs, H2, I2, r, q2⟩
  exact ⟨I2.kIn, run_fnS (us := .ref a :: us) (vs := .ref a :: vs) F hr hb (hx σ) I2 (.cons rfl r) q2⟩
/-- xs.count(y), flat things -/
def rCntF (K : PySem.W.Frag) : V → List V → Hp → VK → Prop := fun x xs H Q => ∃ (a : Addr) (ys : List V) (y : V), x = .ref a ∧ xs = [y] ∧ SqL K H a ys ∧ flatV y = true ∧ ys.all flatV = true ∧ Q (.int (ys.countP (fun z => eqV z y) : Nat)) H
theorem countU {y : V} : ∀ {ys : List V} {its : List Value}, Vals ys its → ys.all flatV = true → its.countP (eqU y) = ys.countP fun z => eqV z y
  | _, _, .nil, _ => rfl
  | _, _, .cons r rs, h => by
    rw [List.all_cons, Bool.and_eq_true] at h
    rw [List.countP_cons, List.countP_cons, countU rs h.2, eqU_of r h.1]
theorem mt_countF : MtR X "list.count" (rCntF X.K) := by
  intro pins s σ H x xs v us Q I rx rxs h
  obtain ⟨a, ys, y, rfl, rfl, hs, fy, fys, q⟩ := h
  cases rx
  obtain ⟨u, rfl, ru⟩ := rxs.one
  obtain ⟨its, rv, ⟨⟨cls, dd, data, sl⟩, n, ho, hc, hdn, hd⟩, hlen⟩ := I.list hs
  simp only at hc hd
  subst hc hd
  refine call_meets PySem.F.slot_list_count ⟨_, ho, rfl⟩ PySem.F.entry_list_count (PySem.F.args_list_count_2 _ _) (SeqAt.list_countAt a its.toArray n dd sl u (eqU y)) ⟨ho, fun u' hu' => mem_eqAt ru fy rv fys u' (by simpa using hu'), ?_⟩
  refine ⟨.int (ys.countP (fun z => eqV z y) : Nat), H, I.tok _, ⟨s.toks, ?_⟩, q⟩
  show Value.int ((its.toArray.toList.countP (eqU y) : Nat) : Int) s.toks = _
  rw [List.toList_toArray, countU rv fys]
theorem unH {k : Nat} {A : Around} (r : L2H.RoomH k A) : A.units + 64 < cLine := by
  have := r.un
  omega
end
end SH

set_option Elab.async false
set_option linter.all false
set_option maxRecDepth 100000
set_option maxHeartbeats 2000000
/-! repr(x) by an own __repr__; bool(x) by an own __len__. -/
namespace SH
open PySem PySem.Spec PyProof.Rows L2
section
open PySem.W
variable {prog : Program} {w : World} {A : Around} {E : Value → Shared → Prop} {s : Shared} {K : Frag} {C x f : Addr} {ox : Obj} {od : Option Obj}
/-- len's own run -/
theorem run_len {Q : Value → Shared → Prop} (X : K.In s.heap) (I : InstAt s.heap x ox C od) (hs : findIn K (.ref C) "__len__" = some (some (.ref f))) (hf : isFn K (.ref f) = true)
    (h : wpAny (model prog w) A.in1 (call (.ref f) [.ref x]) (fun r s' => ∃ (n : Nat) (u : Tok), r = .int (n : Int) u ∧ n < 1000000 ∧ ∀ v tk, Q (.int (n : Int) v) { s' with toks := tk }) E s) : wpAny (model prog w) A (runValue (.builtin "len" ⟨[.ref x], []⟩)) Q E s := by
  refine wpAny_runValue (codeAny_builtin entry_len ?_)
  rw [Around.under_plainId plain_len _]
  unfold Builtin.«len»
  refine wpAny_bind (m := oneArg "len" _) (wpAny_pure ?_)
  refine wpAny_bind (m := callSpecial? (.ref x) (Str.ofString "__len__")) (special_fn X I hs (beq_iff_eq.mp hf) (wpAny_mono h (fun r s' hr => ?_) fun _ _ y => y))
  obtain ⟨n, u, rfl, lt, q⟩ := hr
  refine wpAny_bind (wpAny_holding (wpAny_pure ?_))
  refine wpAny_bind (wpAny_letGo ?_)
  show wpAny _ _ (if (n : Int) < 0 then _ else _) _ _ _
  rw [if_neg (by omega)]
  show wpAny _ _ (if (n : Int) ≥ 2 ^ 63 then _ else _) _ _ _
  rw [if_neg (by omega)]
  exact wpAny_bind (wpAny_mkInt (wpAny_pure (q _ _)))
theorem truth_len {Q : Bool → Shared → Prop} (X : K.In s.heap) (I : InstAt s.heap x ox C od) (hb : findIn K (.ref C) "__bool__" = some none) (hs : findIn K (.ref C) "__len__" = some (some (.ref f))) (hf : isFn K (.ref f) = true)
    (h : wpAny (model prog w) A.in1 (call (.ref f) [.ref x]) (fun r s' => ∃ (n : Nat) (u : Tok), r = .int (n : Int) u ∧ n < 1000000 ∧ ∀ tk, Q ((n : Int) != 0) { s' with toks := tk }) E s) : wpAny (model prog w) A (truthy (.ref x)) Q E s := by
  unfold truthy
  refine wpAny_bind (m := callSpecial? (.ref x) (Str.ofString "__bool__")) (wpAny_bind (wpAny_bind (I.type.here ((looks_findIn X hb).here (wpAny_pure ?_)))))
  refine wpAny_bind (wpAny_bind (I.type.here ((looks_findIn X hs).here ?_)))
  show wpAny _ _ (if (some (Value.ref f)).isNone = true then _ else _) _ _ _
  rw [if_neg (by simp)]
  refine wpAny_bind (run_len X I hs hf (wpAny_mono h (fun r s' hr => ?_) fun _ _ y => y))
  obtain ⟨n, u, rfl, lt, q⟩ := hr
  exact ⟨n, u, rfl, lt, fun v tk => wpAny_pure (q tk)⟩
theorem bool_len {Q : Value → Shared → Prop} (X : K.In s.heap) (I : InstAt s.heap x ox C od) (hb : findIn K (.ref C) "__bool__" = some none) (hs : findIn K (.ref C) "__len__" = some (some (.ref f))) (hf : isFn K (.ref f) = true)
    (h : wpAny (model prog w) A.in1.in1.in1 (call (.ref f) [.ref x]) (fun r s' => ∃ (n : Nat) (u : Tok), r = .int (n : Int) u ∧ n < 1000000 ∧ ∀ tk, Q (.bool ((n : Int) != 0)) { s' with toks := tk }) E s) : wpAny (model prog w) A (call (.type "bool") [.ref x]) Q E s := by
  refine callType_codes (T := "bool") (Bi := Builtin.«object.__init__») (Q₁ := fun r s₁ => ∃ y, r = .bool y ∧ Q r s₁) PySem.F.called_bool (PySem.F.typeCall_bool_1 _) PySem.F.entry_object_init ?_ ?_
  · refine codeAny_of_tree ?_
    show wpAny _ A.in1.in1 (do checkBuiltinCall "bool.__new__" ⟨[.type "bool", .ref x], []⟩; again (.builtin "bool.__new__" ⟨[.type "bool", .ref x], []⟩)) _ _ s
    refine wpAny_bind (wpAny_of_eq (PySem.F.newCall_bool_1 _) (wpAny_pure ⟨plainId_quiet (by decide +kernel) _, codeAny_builtin PySem.F.entry_bool_new ?_⟩))
    rw [Around.under_plainId (by decide +kernel) _]
    have f1 := PySem.F.conv_sub_bool
    have key : ∀ {R : Bool → Shared → Prop}, (∀ b s', Q (.bool b) s' → R b s') → wpAny (model prog w) A.in1.in1 (truthy (.ref x)) R E s := fun {R} k => truth_len X I hb hs hf (wpAny_mono h (fun r s' ⟨n, u, e, lt, q⟩ => ⟨n, u, e, lt, fun tk => k _ _ (q tk)⟩) fun _ _ y => y)
    obtain ⟨hp, g, d, tk, os⟩ := s
    unfold Builtin.«bool.__new__»
    repeat (any_goals (first | assumption | (with_reducible refine key fun b s' q => ?_) | wp_step))
    all_goals first | exact ⟨_, rfl, by assumption⟩ | skip
  · rintro o s₁ ⟨y, rfl, q⟩
    exact ⟨PySem.typeIs_bool _ _, PySem.F.args_object_init_2 _ _, object_init_meets PySem.F.called_bool.init.lookup PySem.F.called_bool.made (by decide) prog w A.in1 _ s₁ ⟨PySem.typeIs_bool _ _, rfl, q⟩⟩
end
section
variable {X : Cx}
/-- repr(x) by an own __repr__ -/
def rReprOwn (C : Addr) (sp : Sp) : List V → Hp → VK → Prop := fun xs H Q => ∃ (a dx : Addr) (fs : List (PySem.Str × V)), xs = [V.ref a] ∧ H a = some (.ins C dx fs) ∧ sp [.ref a] H (fun v H' => ∃ z, v = .str z ∧ Q v H') E0
theorem call_reprOwn {C g : Addr} {gd : FuncData} {n : Nat} {sp : Sp} (hs : PySem.W.findIn X.K (.ref C) "__repr__" = some (some (.ref g))) (hf : PySem.W.isFn X.K (.ref g) = true) (F : FnOk X.prog X.w X.K X.mg X.base CX0 n g gd ["self"] sp) (hb : Binds X.K gd ["self"] []) (hr : Room (n + 1) X.A) : CallR X (.builtin "repr") (rReprOwn C sp) := by
  intro pins s σ H xs us Q I r h
  obtain ⟨a, dx, fs, rfl, ha, q⟩ := h
  obtain ⟨u, rfl, ru⟩ := vals1 r
  cases ru
  obtain ⟨mA, om, _⟩ := ins_get I.hok ha
  obtain ⟨od, J, _⟩ := om.look
  obtain ⟨m, hF⟩ := I.fr
  have rm := hr.in1
  refine PySem.W.repr_K (by have := rm.un; omega) hF I.ok.mod.kin J hs hf (wpAny_call (codeAny_mono (F.run X.A.in1 X.stack s H ⟨[.ref a], []⟩ [.ref a] [.ref a] _ E0 rm I.env0.in1 (hb s [.ref a] I.kIn rfl) (.cons rfl .nil) q) fun r z hq => ?_))
  cases r with
  | error e => exact hq.elim
  | ok fl =>
    cases fl with
    | ret v =>
      obtain ⟨y, H', J2, ry, t, ey, fin⟩ := I.after hq
      subst ey
      obtain ⟨tk, rfl⟩ := (show ∃ tk, v = Value.str t tk from ry)
      exact ⟨.str t, H', J2, ⟨_, rfl⟩, fin⟩
    | _ => exact False.elim hq
/-- bool(x) by an own __len__ -/
def rBoolLen (C : Addr) (sp : Sp) : List V → Hp → VK → Prop := fun xs H Q => ∃ (a dx : Addr) (fs : List (PySem.Str × V)), xs = [V.ref a] ∧ H a = some (.ins C dx fs) ∧ sp [.ref a] H (fun v H' => ∃ n : Nat, v = .int (n : Int) ∧ n < 1000000 ∧ Q (.bl ((n : Int) != 0)) H') E0
theorem call_boolLen {C g : Addr} {gd : FuncData} {n : Nat} {sp : Sp} (hb0 : PySem.W.findIn X.K (.ref C) "__bool__" = some none) (hs : PySem.W.findIn X.K (.ref C) "__len__" = some (some (.ref g))) (hf : PySem.W.isFn X.K (.ref g) = true) (F : FnOk X.prog X.w X.K X.mg X.base CX0 n g gd ["self"] sp) (hb : Binds X.K gd ["self"] []) (hr : Room (n + 3) X.A) : CallR X (.type "bool") (rBoolLen C sp) := by
  intro pins s σ H xs us Q I r h
  obtain ⟨a, dx, fs, rfl, ha, q⟩ := h
  obtain ⟨u, rfl, ru⟩ := vals1 r
  cases ru
  obtain ⟨mA, om, _⟩ := ins_get I.hok ha
  obtain ⟨od, J, _⟩ := om.look
  have rm : Room n X.A.in1.in1.in1 := ((show Room (n + 2) X.A.in1 from Room.in1 hr).in1).in1
  refine bool_len I.kIn J hb0 hs hf (wpAny_call (codeAny_mono (F.run X.A.in1.in1.in1 X.stack s H ⟨[.ref a], []⟩ [.ref a] [.ref a] _ E0 rm I.env0.in1.in1.in1 (hb s [.ref a] I.kIn rfl) (.cons rfl .nil) q) fun r z hq => ?_))
  cases r with
  | error e => exact hq.elim
  | ok fl =>
    cases fl with
    | ret v =>
      obtain ⟨y, H', J2, ry, t, ey, lt, fin⟩ := I.after hq
      subst ey
      obtain ⟨tk, rfl⟩ := (show ∃ tk, v = Value.int t tk from ry)
      exact ⟨t, tk, rfl, lt, fun tk' => ⟨.bl ((t : Int) != 0), H', J2.tok tk', rfl, fin⟩⟩
    | _ => exact False.elim hq
end
end SH

set_option Elab.async false
set_option linter.all false
set_option maxRecDepth 100000
/-! plain data of tuples: how deep, how long their text. -/
namespace SH
open PySem L2
mutual
def onlyT : PyData → Bool
  | .none => true
  | .bool _ => true
  | .int _ => true
  | .str _ => true
  | .list _ => false
  | .tuple ds => onlyTs ds
  | .dict _ => false
def onlyTs : List PyData → Bool
  | [] => true
  | d :: ds => onlyT d && onlyTs ds
end
theorem onlyTs_mem : ∀ {ds : List PyData}, (∀ d ∈ ds, onlyT d = true) → onlyTs ds = true
  | [], _ => rfl
  | d :: ds, h => by
    show (onlyT d && onlyTs ds) = true
    rw [h d (List.mem_cons_self ..), onlyTs_mem fun e he => h e (List.mem_cons_of_mem _ he)]
    rfl
theorem mem_onlyTs : ∀ {ds : List PyData}, onlyTs ds = true → ∀ d ∈ ds, onlyT d = true
  | [], _, d, hd => by cases hd
  | e :: ds, h, d, hd => by
    have h' : (onlyT e && onlyTs ds) = true := h
    rw [Bool.and_eq_true] at h'
    rcases List.mem_cons.mp hd with rfl | hd
    · exact h'.1
    · exact mem_onlyTs h'.2 d hd
/-! such data stay where the tuples stay -/
def KpT (K : PySem.W.Frag) (H H' : Hp) : Prop := ∀ a xs, SqT K H a xs → SqT K H' a xs
mutual
theorem Dp.keep {K : PySem.W.Frag} {H H' : Hp} (h : KpT K H H') : ∀ {d : PyData} {v : V}, onlyT d = true → Dp K H v d → Dp K H' v d
  | .none, _, _, .non => .non
  | .bool _, _, _, .bl b => .bl b
  | .int _, _, _, .int i => .int i
  | .str _, _, _, .str x => .str x
  | .list _, _, o, _ => by cases o
  | .tuple ds, _, o, .tup s q => .tup (h _ _ s) (DpAll.keep h o q)
  | .dict _, _, o, _ => by cases o
theorem DpAll.keep {K : PySem.W.Frag} {H H' : Hp} (h : KpT K H H') : ∀ {ds : List PyData} {vs : List V}, onlyTs ds = true → DpAll K H vs ds → DpAll K H' vs ds
  | [], _, _, .nil => .nil
  | d :: ds, _, o, .cons a b => by
    have o' : (onlyT d && onlyTs ds) = true := o
    rw [Bool.and_eq_true] at o'
    exact .cons (Dp.keep h o'.1 a) (DpAll.keep h o'.2 b)
end
theorem Same.kpT {K : PySem.W.Frag} {H H' : Hp} (s : Same H H') : KpT K H H' := fun a xs h => by
  rcases h with (h | ⟨o, h⟩) | h
  · exact .inl (.inl (s _ _ h))
  · exact .inl (.inr ⟨o, s _ _ h⟩)
  · exact .inr h
theorem KpT.trans {K : PySem.W.Frag} {H H1 H2 : Hp} (a : KpT K H H1) (b : KpT K H1 H2) : KpT K H H2 := fun x xs h => b x xs (a x xs h)
theorem KpT.lst {K : PySem.W.Frag} {H : Hp} {l : Addr} {xs zs : List V} (h : H l = some (.lst xs)) : KpT K H (upd H l (.lst zs)) := fun a ys q => by
  rcases q with (q | ⟨o, q⟩) | q
  · exact .inl (.inl (by rw [upd_ne (fun z => by rw [z, h] at q; cases q)]; exact q))
  · exact .inl (.inr ⟨o, by rw [upd_ne (fun z => by rw [z, h] at q; cases q)]; exact q⟩)
  · exact .inr q
theorem DpAll.app {K : PySem.W.Frag} {H : Hp} : ∀ {as bs : List V} {ds es : List PyData}, DpAll K H as ds → DpAll K H bs es → DpAll K H (as ++ bs) (ds ++ es)
  | _, _, _, _, .nil, q => q
  | _, _, _, _, .cons a b, q => .cons a (DpAll.app b q)
theorem DpAll.len {K : PySem.W.Frag} {H : Hp} : ∀ {as : List V} {ds : List PyData}, DpAll K H as ds → as.length = ds.length
  | _, _, .nil => rfl
  | _, _, .cons _ b => by rw [List.length_cons, List.length_cons, DpAll.len b]
theorem DpAll.rev {K : PySem.W.Frag} {H : Hp} : ∀ {as : List V} {ds : List PyData}, DpAll K H as ds → DpAll K H as.reverse ds.reverse
  | _, _, .nil => .nil
  | _, _, .cons a b => by
    rw [List.reverse_cons, List.reverse_cons]
    exact DpAll.app (DpAll.rev b) (.cons a .nil)
/-! ### how long their text is -/
theorem piled_sum : ∀ ts : List Str, piled ts = (ts.map fun t => t.length + 2).sum
  | [] => rfl
  | t :: ts => by rw [piled_cons, piled_sum ts, List.map_cons, List.sum_cons]
theorem tuple_len (ts : List Str) : (tupleText ts).length ≤ 3 + (ts.map fun t => t.length + 2).sum := by
  unfold tupleText
  rw [strLen_append, strLen_append]
  have e1 : (((if ts.length == 1 then ",)" else ")" : String) : Str)).length ≤ 2 := by split <;> decide
  have e2 : (("(" : String) : Str).length = 1 := rfl
  cases ts with
  | nil =>
    have : (Str.join ", " ([] : List Str)).length = 0 := rfl
    omega
  | cons x r =>
    have := join_length_add (x :: r) (by simp)
    rw [piled_sum] at this
    omega
theorem textFrom_le : ∀ (ts : List Str) (k : Nat) (acc : Str), (textFrom k acc ts).length ≤ acc.length + (ts.map fun t => t.length + 2).sum
  | [], _, acc => Nat.le_refl _
  | t :: r, k, acc => by
    have h := textFrom_le r (k + 1) (acc ++ (if k > 0 then ", " else "" : String) ++ t)
    have e : (acc ++ (if k > 0 then ", " else "" : String) ++ t).length ≤ acc.length + 2 + t.length := by
      rw [strLen_append, strLen_append]
      have : (((if k > 0 then ", " else "" : String) : Str)).length ≤ 2 := by split <;> decide
      omega
    show (textFrom (k + 1) (acc ++ (if k > 0 then ", " else "" : String) ++ t) r).length ≤ _
    rw [List.map_cons, List.sum_cons]
    omega
theorem list_len (ts : List Str) : (listText ts).length ≤ 2 + (ts.map fun t => t.length + 2).sum := by
  unfold listText
  rw [strLen_append]
  have := textFrom_le ts 0 "["
  have e1 : (("[" : String) : Str).length = 1 := rfl
  have e2 : (("]" : String) : Str).length = 1 := rfl
  omega
/-- plain data of tuples, no deeper than n, with a text of at most m signs -/
structure Nice (n m : Nat) (d : PyData) : Prop where
  lay : PySem.PyData.canLay0 d = true
  dep : d.depth ≤ n
  ot : onlyT d = true
  sh : d.showable = true
  nd : d.hasDict = false
  sz : d.shown.length ≤ m
theorem Nice.up {n m n' m' : Nat} {d : PyData} (h : Nice n m d) (a : n ≤ n') (b : m ≤ m') : Nice n' m' d := ⟨h.lay, Nat.le_trans h.dep a, h.ot, h.sh, h.nd, Nat.le_trans h.sz b⟩
theorem showAll_mem : ∀ {ds : List PyData}, (∀ d ∈ ds, PyData.showable d = true) → PyData.showableAll ds = true
  | [], _ => rfl
  | d :: ds, h => by
    show (PyData.showable d && PyData.showableAll ds) = true
    rw [h d (List.mem_cons_self ..), showAll_mem fun e he => h e (List.mem_cons_of_mem _ he)]
    rfl
theorem noDict_mem : ∀ {ds : List PyData}, (∀ d ∈ ds, PyData.hasDict d = false) → PyData.hasDictAll ds = false
  | [], _ => rfl
  | d :: ds, h => by
    show (PyData.hasDict d || PyData.hasDictAll ds) = false
    rw [h d (List.mem_cons_self ..), noDict_mem fun e he => h e (List.mem_cons_of_mem _ he)]
    rfl
theorem shownAll_map : ∀ ds : List PyData, PyData.shownAll ds = ds.map PyData.shown
  | [] => rfl
  | d :: ds => by
    show PyData.shown d :: PyData.shownAll ds = _
    rw [shownAll_map ds]
    rfl
theorem lay_all (xs : List PyData) : PySem.PyData.canLayAll0 xs = xs.all PySem.PyData.canLay0 := by
  induction xs with
  | nil => rfl
  | cons x xs ih =>
    show (PySem.PyData.canLay0 x && PySem.PyData.canLayAll0 xs) = _
    rw [ih, List.all_cons]
theorem deep_all {n : Nat} : ∀ {xs : List PyData}, (∀ x ∈ xs, x.depth ≤ n) → PySem.PyData.depthAll xs ≤ n
  | [], _ => Nat.zero_le _
  | x :: xs, h => by
    show max x.depth (PySem.PyData.depthAll xs) ≤ n
    have h1 := h x (List.mem_cons_self ..)
    have h2 := deep_all fun y hy => h y (List.mem_cons_of_mem _ hy)
    omega
/-- the parts one by one: no deeper than n, their texts together -/
inductive Nices (n : Nat) : Nat → List PyData → Prop
  | nil : Nices n 0 []
  | cons {m k : Nat} {d : PyData} {ds : List PyData} : Nice n m d → Nices n k ds → Nices n (m + 2 + k) (d :: ds)
theorem Nices.mem {n k : Nat} {ds : List PyData} (h : Nices n k ds) : ∀ d ∈ ds, ∃ m, Nice n m d := by
  induction h with
  | nil => intro d hd; cases hd
  | cons a _ ih =>
    intro e he
    rcases List.mem_cons.mp he with rfl | he
    · exact ⟨_, a⟩
    · exact ih e he
theorem Nices.sum {n k : Nat} {ds : List PyData} (h : Nices n k ds) : ((PyData.shownAll ds).map fun t => t.length + 2).sum ≤ k := by
  induction h with
  | nil => exact Nat.le_refl _
  | @cons m k d ds a _ ih =>
    show ((PyData.shown d :: PyData.shownAll ds).map fun t => t.length + 2).sum ≤ _
    rw [List.map_cons, List.sum_cons]
    have := a.sz
    omega
theorem Nices.app {n k l : Nat} {ds es : List PyData} (a : Nices n k ds) (b : Nices n l es) : Nices n (k + l) (ds ++ es) := by
  induction a with
  | nil => rw [Nat.zero_add]; exact b
  | @cons m k d ds h _ ih =>
    have := Nices.cons h ih
    rw [show m + 2 + k + l = m + 2 + (k + l) by omega]
    exact this
theorem Nices.all {n m : Nat} : ∀ {ds : List PyData}, (∀ d ∈ ds, Nice n m d) → Nices n (ds.length * (m + 2)) ds
  | [], _ => by rw [List.length_nil, Nat.zero_mul]; exact .nil
  | d :: ds, h => by
    have := Nices.cons (h d (List.mem_cons_self ..)) (Nices.all fun e he => h e (List.mem_cons_of_mem _ he))
    rw [List.length_cons, Nat.succ_mul, Nat.add_comm]
    exact this
theorem nice_tup {n k : Nat} {ds : List PyData} (h : Nices n k ds) : Nice (n + 1) (3 + k) (.tuple ds) := by
  have me := h.mem
  refine ⟨?_, ?_, ?_, ?_, ?_, ?_⟩
  · show PySem.PyData.canLayAll0 ds = true
    rw [lay_all, List.all_eq_true]
    exact fun d hd => (let ⟨_, z⟩ := me d hd; z.lay)
  · show PySem.PyData.depthAll ds + 1 ≤ n + 1
    have := deep_all (n := n) fun d hd => (let ⟨_, z⟩ := me d hd; z.dep)
    omega
  · exact onlyTs_mem fun d hd => (let ⟨_, z⟩ := me d hd; z.ot)
  · exact showAll_mem fun d hd => (let ⟨_, z⟩ := me d hd; z.sh)
  · exact noDict_mem fun d hd => (let ⟨_, z⟩ := me d hd; z.nd)
  · have := tuple_len (PyData.shownAll ds)
    have := h.sum
    show (tupleText (PyData.shownAll ds)).length ≤ _
    omega
/-- a list of such data -/
structure NiceL (ds : List PyData) : Prop where
  lay : PySem.PyData.canLay0 (.list ds) = true
  dep : (PyData.list ds).depth ≤ 40
  ot : onlyTs ds = true
  sh : (PyData.list ds).showable = true
  nd : (PyData.list ds).hasDict = false
  sz : (PyData.list ds).shown.length ≤ sizeLine
theorem niceL {n k : Nat} {ds : List PyData} (h : Nices n k ds) (hn : n < 40) (hk : k + 2 ≤ sizeLine) : NiceL ds := by
  have me := h.mem
  refine ⟨?_, ?_, ?_, ?_, ?_, ?_⟩
  · show PySem.PyData.canLayAll0 ds = true
    rw [lay_all, List.all_eq_true]
    exact fun d hd => (let ⟨_, z⟩ := me d hd; z.lay)
  · show PySem.PyData.depthAll ds + 1 ≤ 40
    have := deep_all (n := n) fun d hd => (let ⟨_, z⟩ := me d hd; z.dep)
    omega
  · exact onlyTs_mem fun d hd => (let ⟨_, z⟩ := me d hd; z.ot)
  · exact showAll_mem fun d hd => (let ⟨_, z⟩ := me d hd; z.sh)
  · exact noDict_mem fun d hd => (let ⟨_, z⟩ := me d hd; z.nd)
  · have := list_len (PyData.shownAll ds)
    have := h.sum
    show (listText (PyData.shownAll ds)).length ≤ _
    omega
theorem NiceL.shaped {ds : List PyData} (h : NiceL ds) : SeqAt.shaped (.list ds) = true := by
  unfold SeqAt.shaped
  rw [h.lay, decide_eq_true (Nat.le_trans h.dep (by decide))]
  rfl
theorem NiceL.refl {ds : List PyData} (h : NiceL ds) : PyData.eqv (.list ds) (.list ds) = true := SeqAt.eqv_refl _ h.lay
theorem nice_int {n : Nat} {i : Int} (h : i.natAbs < 2 ^ 100) : Nice n 101 (.int i) := by
  have lg : i.natAbs.log2 < 1920 := by
    by_cases z : i.natAbs = 0
    · rw [z]; decide
    · have := (Nat.log2_lt z).mpr h
      omega
  refine ⟨rfl, Nat.zero_le _, rfl, decide_eq_true lg, rfl, ?_⟩
  show (Str.ofString (toString i)).length ≤ 101
  have e := int_text_length_le (a := i) (k := 100) (by decide) (by
    by_cases z : i.natAbs = 0
    · rw [z]; decide
    · exact (Nat.log2_lt z).mpr h)
  rw [ofString_length]; exact e
theorem nice_lit {n m : Nat} {s : Str} (h : PySem.PyData.strOk s = true) (k : (reprText s).length ≤ m) : Nice n m (.str s) := ⟨h, Nat.zero_le _, rfl, rfl, rfl, k⟩
end SH

set_option Elab.async false
set_option linter.all false
set_option maxRecDepth 100000
namespace SH
open PySem L2
def topS (i : Nat) : Stmt := PySem.Challenge.pw_stealhall_k02_books_made.main.body.getD i (.Pass ⟨0, 0, 0, 0⟩)
end SH

set_option Elab.async false
set_option linter.all false
set_option maxRecDepth 100000
namespace SH
open PySem L2
abbrev sBag : Stmt := topS 65
abbrev sTake : Stmt := topS 66
theorem scBag : FnScope ["_law_script", "_law_k", "_law_cell"] ["_law_script", "_law_k"] (defScope sBag) := ⟨rfl, rfl, rfl, by decide +kernel, rfl, by decide +kernel, by decide +kernel⟩
theorem scTake : FnScope ["_law_bag_here", "_law_many", "_law_digit", "_law_primes", "_law_step", "_law_base", "_law_found", "_law_prime"] ["_law_bag_here", "_law_many"] (defScope sTake) := ⟨rfl, rfl, rfl, by decide +kernel, rfl, by decide +kernel, by decide +kernel⟩
/-- the names of the built-ins are free -/
structure Bi (mg : Str → Option Value) : Prop where
  len : mg "len" = none
  abs : mg "abs" = none
  int : mg "int" = none
  str : mg "str" = none
  range : mg "range" = none
  max : mg "max" = none
  min : mg "min" = none
  isinstance : mg "isinstance" = none
  all : mg "all" = none
/-- a def that can be called -/
structure Fk (P : Program) (w : World) (K : PySem.W.Frag) (mg : Str → Option Value) (base : Heap) (lv : Nat) (x : Str) (f : Addr) (fd : FuncData) (ps : List Str) (sp : Sp) : Prop where
  G : FnOk P w K mg base CX0 lv f fd ps sp
  m : mg x = some (.ref f)
  k : PySem.W.keepIn K (.ref f) = true
  b : Binds K fd ps []
/-- a bag from which n can be taken -/
def Bag (H : Hp) (b : Addr) (n : Nat) : Prop := ∃ x y z : Int, H b = some (.lst [.int x, .int y, .int z]) ∧ 0 ≤ x ∧ 0 ≤ y ∧ y ≤ 4294967296 ∧ 0 ≤ z ∧ z + n ≤ 16777216
theorem Bag.less {H : Hp} {b : Addr} {n m : Nat} (h : Bag H b n) (hm : m ≤ n) : Bag H b m := by
  obtain ⟨x, y, z, e, h1, h2, h3, h4, h5⟩ := h
  exact ⟨x, y, z, e, h1, h2, h3, h4, by omega⟩
theorem Bag.same {H H' : Hp} {b : Addr} {n : Nat} (h : Bag H b n) (s : Same H H') : Bag H' b n := by
  obtain ⟨x, y, z, e, r⟩ := h
  exact ⟨x, y, z, s _ _ e, r⟩
theorem Bag.lst {H : Hp} {b : Addr} {n : Nat} (h : Bag H b n) : ∃ ys, H b = some (.lst ys) := by
  obtain ⟨x, y, z, e, _⟩ := h
  exact ⟨_, e⟩
def spBag (K : PySem.W.Frag) : Sp := fun vs H Q _ => ∃ (a : Addr) (ns : List Int) (k : Int), vs = [.ref a, .int k] ∧ SqL K H a (ns.map V.int) ∧ 0 ≤ k ∧ k ≤ 63 ∧
  ∀ b H', Same H H' → H b = none → Bag H' b 16000000 → Q (.ref b) H'
def spTake : Sp := fun vs H Q _ => ∃ (b : Addr) (m : Int) (n : Nat), vs = [.ref b, .int m] ∧ 0 < m ∧ m < 1073741824 ∧ Bag H b (n + 1) ∧
  ∀ (d : Int) (H' : Hp), 0 ≤ d → d < m → Bag H' b n → But b H H' → Q (.int d) H'
theorem bit01 (b : Bool) : -(2 ^ 64) < (if b = true then (1 : Int) else 0) ∧ (if b = true then (1 : Int) else 0) < 2 ^ 64 := by cases b <;> decide
theorem bit0 (b : Bool) : 0 ≤ (if b = true then (1 : Int) else 0) := by cases b <;> decide
section
variable {P : Program} {w : World} {K : PySem.W.Frag} {mg : Str → Option Value} {base : Heap}
theorem ok_bag {f : Addr} {fd : FuncData} (F : Fun K "_law_bag" "_law_bag" sBag f fd) (T : Bi mg) : FnOk P w K mg base CX0 1 f fd ["_law_script", "_law_k"] (spBag K) := by
  refine F.ok scBag (fun vs H Q E h => ?_) (fun cdv A outer s H vs Q E hr h => ?_)
  · obtain ⟨a, ns, k, rfl, _⟩ := h
    rfl
  obtain ⟨a, ns, k, rfl, hS, h0, h1, q⟩ := h
  refine ⟨_, (pss_cons (ps_set (i := 2) scBag.nd rfl (Or.inl rfl) (pe_op op_add (pe_op op_mul pe_int (pv 1)) pe_int))
    (C8.pss_cut (ps_if (pt_cmpR op_lt (pv 1) (pe_callB call_len_seq (by rfl) T.len (by decide +kernel) (pa_cons (pv 0) pa_nil)) (nomark _))
      (pss_one (ps_set (i := 2) scBag.nd rfl (Or.inl rfl) (pe_ix ix_list (pv 0) (pv 1) (fun _ _ => rfl))))
      pss_nil)
    (pss_one (ps_ret (pe_lst (pa_cons (pe_op op_mul (pe_callB call_abs (by rfl) T.abs (by decide +kernel) (pa_cons (pv 2) pa_nil)) (pe_callTy call_int1 (by rfl) T.int (by decide +kernel) (pa_cons (pe_cmpR op_ge (pe_callB call_abs (by rfl) T.abs (by decide +kernel) (pa_cons (pv 2) pa_nil)) (pe_op op_pow pe_int pe_int) (nomark _)) pa_nil))) (pa_cons (pe_op op_add (pe_op op_mod (pv 2) pe_int) (pe_op op_mul pe_int (pv 1))) (pa_cons pe_int pa_nil)))))))), ?_⟩
  have hl : (ns.map V.int).length = ns.length := List.length_map _
  refine ⟨_, rfl, _, _, rfl, rfl, .inl ⟨by decide, by decide⟩, _, _, rfl, rfl, ?_⟩
  refine ⟨fun σ' H' => ∃ c : Int, σ' = [some (.ref a), some (.int k), some (.int c)] ∧ H' = H, ?_, ?_⟩
  · refine ⟨_, rfl, _, rfl, a, _, rfl, .inl hS, _, _, rfl, rfl, _, rfl, ?_⟩
    refine ite2 (fun c => ?_) (fun c => ?_)
    · have c' := of_decide_eq_true c
      rw [hl] at c'
      have hk : k.toNat < ns.length := by omega
      refine ⟨_, rfl, _, rfl, a, _, k, .int ns[k.toNat], rfl, rfl, hS, ?_, ?_⟩
      · have q : atI (ns.map V.int) ((k.toNat : Nat) : Int) = some (.int ns[k.toNat]) := atI_nat (by rw [List.getElem?_map, List.getElem?_eq_getElem hk] <;> rfl)
        rwa [show ((k.toNat : Nat) : Int) = k by omega] at q
      · exact ⟨_, rfl, rfl⟩
    · exact ⟨_, rfl, rfl⟩
  · rintro σ' H' ⟨c, rfl, rfl⟩
    refine ⟨_, rfl, _, rfl, _, rfl, _, rfl, _, _, rfl, rfl, ⟨by decide, by decide, by decide⟩, _, _, rfl, rfl, .inr ⟨_, rfl, ?_⟩⟩
    refine ⟨_, _, rfl, rfl, .inr ?_, ?_⟩
    · exact bit01 _
    refine ⟨_, rfl, _, _, rfl, rfl, (by show (0 : Int) < 2147483647; decide), _, rfl, _, _, rfl, rfl, .inl ⟨by decide, by decide⟩, _, _, rfl, rfl, ?_⟩
    refine ⟨by show 3 ≤ sizeLine; decide, fun b hb => ?_⟩
    refine q b _ (same_new hb _) hb ⟨_, _, _, upd_same, ?_, ?_, ?_, Int.le_refl 0, by decide⟩
    · show 0 ≤ (if c < 0 then -c else c) * (if decide ((10 : Int) ^ 18 ≤ (if c < 0 then -c else c)) = true then (1 : Int) else 0)
      refine Int.mul_nonneg ?_ ?_
      · split <;> omega
      · exact bit0 _
    · have := Int.emod_nonneg c (show (2147483647 : Int) ≠ 0 by decide)
      show 0 ≤ c % 2147483647 + 37 * k
      omega
    · have := Int.emod_lt_of_pos c (show (0 : Int) < 2147483647 by decide)
      show c % 2147483647 + 37 * k ≤ 4294967296
      omega
theorem pow3 {a : Int} (h0 : 0 ≤ a) (h : a < 4611686018427387904) : CPow a 3 := ⟨by decide, by decide, by omega⟩
def primes : List Int := [2147483647, 2147483629, 2147483587, 2147483579, 2147483563, 2147483549, 2147483543, 2147483497, 2147483489, 2147483477, 2147483423, 2147483399]
theorem primes_at {z : Int} : ∃ p : Int, atI (primes.map V.int) (z % 12) = some (.int p) ∧ 0 < p ∧ p < 2147483648 := by
  have h0 := Int.emod_nonneg z (show (12 : Int) ≠ 0 by decide)
  have h1 := Int.emod_lt_of_pos z (show (0 : Int) < 12 by decide)
  have hk : (z % 12).toNat < primes.length := by show (z % 12).toNat < 12; omega
  have q : atI (primes.map V.int) (((z % 12).toNat : Nat) : Int) = some (.int primes[(z % 12).toNat]) := atI_nat (by rw [List.getElem?_map, List.getElem?_eq_getElem hk] <;> rfl)
  rw [show (((z % 12).toNat : Nat) : Int) = z % 12 by omega] at q
  have all : ∀ p ∈ primes, 0 < p ∧ p < 2147483648 := by decide
  exact ⟨_, q, all _ (List.getElem_mem hk)⟩
theorem base_le {y z : Int} (h2 : 0 ≤ y) (h3 : y ≤ 4294967296) (h4 : 0 ≤ z) (h5 : z ≤ 16777217) : 0 ≤ y * (2 * z + 1) + 7919 * z * z + 29 ∧ y * (2 * z + 1) + 7919 * z * z + 29 < 4611686018427387904 := by
  have a1 : y * (2 * z + 1) ≤ 4294967296 * 67108864 := Int.mul_le_mul h3 (by omega) (by omega) (by omega)
  have a2 : 0 ≤ y * (2 * z + 1) := Int.mul_nonneg h2 (by omega)
  have b1 : 7919 * z * z ≤ 132858781423 * 16777217 := Int.mul_le_mul (by omega) h5 h4 (by omega)
  have b2 : 0 ≤ 7919 * z * z := Int.mul_nonneg (by omega) h4
  omega
theorem ok_take {f : Addr} {fd : FuncData} (F : Fun K "_law_take" "_law_take" sTake f fd) : FnOk P w K mg base CX0 1 f fd ["_law_bag_here", "_law_many"] spTake := by
  refine F.ok scTake (fun vs H Q E h => ?_) (fun cdv A outer s H vs Q E hr h => ?_)
  · obtain ⟨b, m, n, rfl, _⟩ := h
    rfl
  obtain ⟨b, m, n, rfl, hm0, hm1, ⟨x, y, z, hb, hx, hy, hy1, hz, hz1⟩, q⟩ := h
  refine ⟨_, (pss_cons (ps_if (pt_cmpR op_gt (pe_ix ix_list (pv 0) pe_int (fun _ _ => rfl)) pe_int (nomark _))
      (pss_cons (ps_set (i := 2) scTake.nd rfl (Or.inl rfl) (pe_op op_mod (pe_ix ix_list (pv 0) pe_int (fun _ _ => rfl)) (pv 1)))
    (pss_cons (ps_asg (pe_op op_fdiv (pe_ix ix_list (pv 0) pe_int (fun _ _ => rfl)) (pv 1)) (pg_sub (pv 0) pe_int set_list))
    (pss_one (ps_ret (pv 2)))))
      pss_nil)
    (pss_cons (ps_set (i := 3) scTake.nd rfl (Or.inl rfl) (pe_tup (pa_cons pe_int (pa_cons pe_int (pa_cons pe_int (pa_cons pe_int (pa_cons pe_int (pa_cons pe_int (pa_cons pe_int (pa_cons pe_int (pa_cons pe_int (pa_cons pe_int (pa_cons pe_int (pa_cons pe_int pa_nil))))))))))))))
    (pss_cons (ps_asg (pe_op op_add (pe_ix ix_list (pv 0) pe_int (fun _ _ => rfl)) pe_int) (pg_sub (pv 0) pe_int set_list))
    (pss_cons (ps_set (i := 4) scTake.nd rfl (Or.inl rfl) (pe_ix ix_list (pv 0) pe_int (fun _ _ => rfl)))
    (pss_cons (ps_set (i := 5) scTake.nd rfl (Or.inl rfl) (pe_op op_add (pe_op op_add (pe_op op_mul (pe_ix ix_list (pv 0) pe_int (fun _ _ => rfl)) (pe_op op_add (pe_op op_mul pe_int (pv 4)) pe_int)) (pe_op op_mul (pe_op op_mul pe_int (pv 4)) (pv 4))) pe_int))
    (pss_cons (ps_set (i := 6) scTake.nd rfl (Or.inl rfl) (pe_op op_mod (pe_op op_pow (pv 5) pe_int) (pe_ix ix_tup (pv 3) (pe_op op_mod (pv 4) pe_int) (fun _ _ => rfl))))
    (pss_cons (ps_set (i := 7) scTake.nd rfl (Or.inl rfl) (pe_ix ix_tup (pv 3) (pe_op op_mod (pe_op op_add (pv 4) pe_int) pe_int) (fun _ _ => rfl)))
    (pss_one (ps_ret (pe_op op_mod (pe_op op_fdiv (pe_op op_mod (pe_op op_mul (pv 6) (pe_op op_add (pe_op op_fdiv (pv 6) pe_int) pe_int)) (pv 7)) pe_int) (pv 1))))))))))), ?_⟩
  have i0 : ∀ {u v t : V}, atI [u, v, t] 0 = some u := fun {u v t} => atI_nat (j := 0) rfl
  have i1 : ∀ {u v t : V}, atI [u, v, t] 1 = some v := fun {u v t} => atI_nat (j := 1) rfl
  have i2 : ∀ {u v t : V}, atI [u, v, t] 2 = some t := fun {u v t} => atI_nat (j := 2) rfl
  refine ⟨_, rfl, b, _, 0, _, rfl, rfl, SqL.of hb, i0, _, _, rfl, rfl, _, rfl, ?_⟩
  refine ite2 (fun c => ?_) (fun c => ?_)
  · refine ⟨_, rfl, b, _, 0, _, rfl, rfl, SqL.of hb, i0, _, rfl, _, _, rfl, rfl, hm0, ?_⟩
    refine ⟨_, rfl, b, _, 0, _, rfl, rfl, SqL.of hb, i0, _, rfl, _, _, rfl, rfl, ⟨hm0, hm1⟩, ?_⟩
    refine ⟨_, rfl, b, _, 0, 0, rfl, rfl, hb, rfl, ?_⟩
    refine ⟨_, rfl, ?_⟩
    refine q _ _ (Int.emod_nonneg x (by omega)) (Int.emod_lt_of_pos x hm0) ⟨_, y, z, upd_same, Int.ediv_nonneg hx (by omega), hy, hy1, hz, by omega⟩ fun a o na e => ?_
    rw [upd_ne na]
    exact e
  · refine ⟨by show 12 ≤ sizeLine; decide, fun t ht => ?_⟩
    have nt : b ≠ t := ne_of_none hb ht
    have hb1 : (upd H t (.tup (primes.map V.int))) b = some (.lst [.int x, .int y, .int z]) := by rw [upd_ne nt]; exact hb
    refine ⟨_, rfl, b, _, 2, _, rfl, rfl, SqL.of hb1, i2, _, _, rfl, rfl, ?_⟩
    refine ⟨_, rfl, b, _, 2, 2, rfl, rfl, hb1, rfl, ?_⟩
    have hb2 : (upd (upd H t (.tup (primes.map V.int))) b (.lst [.int x, .int y, .int (z + 1)])) b = some (.lst [.int x, .int y, .int (z + 1)]) := upd_same
    have ht2 : (upd (upd H t (.tup (primes.map V.int))) b (.lst [.int x, .int y, .int (z + 1)])) t = some (.tup (primes.map V.int)) := by rw [upd_ne (Ne.symm nt), upd_same]
    refine ⟨_, rfl, b, _, 2, _, rfl, rfl, SqL.of hb2, i2, ?_⟩
    obtain ⟨c0, c1⟩ := base_le (y := y) (z := z + 1) hy hy1 (by omega) (by omega)
    refine ⟨_, rfl, b, _, 1, _, rfl, rfl, SqL.of hb2, i1, _, rfl, _, _, rfl, rfl, .inl ⟨by decide, by decide⟩, _, _, rfl, rfl, _, _, rfl, rfl, .inl ⟨by omega, by omega⟩, ?_⟩
    refine ⟨_, rfl, _, _, rfl, rfl, .inl ⟨by decide, by decide⟩, _, rfl, _, _, rfl, rfl, .inl ⟨by omega, by omega⟩, _, _, rfl, rfl, _, _, rfl, rfl, ?_⟩
    obtain ⟨p1, e1, p1a, p1b⟩ := primes_at (z := z + 1)
    obtain ⟨p2, e2, p2a, p2b⟩ := primes_at (z := z + 1 + 5)
    refine ⟨_, rfl, _, _, rfl, rfl, pow3 c0 c1, _, rfl, _, rfl, _, _, rfl, rfl, (by show (0 : Int) < 12; decide), t, _, _, _, rfl, rfl, SqT.of ht2, e1, _, _, rfl, rfl, p1a, ?_⟩
    refine ⟨_, rfl, _, rfl, _, _, rfl, rfl, _, _, rfl, rfl, (by show (0 : Int) < 12; decide), t, _, _, _, rfl, rfl, SqT.of ht2, e2, ?_⟩
    have f0 := Int.emod_nonneg ((y * (2 * (z + 1) + 1) + 7919 * (z + 1) * (z + 1) + 29) ^ 3) (show p1 ≠ 0 by omega)
    have f1 := Int.emod_lt_of_pos ((y * (2 * (z + 1) + 1) + 7919 * (z + 1) * (z + 1) + 29) ^ 3) p1a
    refine ⟨_, rfl, _, rfl, _, _, rfl, rfl, ⟨by decide, by decide⟩, _, _, rfl, rfl, _, _, rfl, rfl, .inl ⟨Int.lt_of_lt_of_le (by decide) f0, Int.lt_trans f1 (by omega)⟩, _, rfl, _, _, rfl, rfl, p2a, _, _, rfl, rfl, ⟨by decide, by decide⟩, _, rfl, _, _, rfl, rfl, hm0, ?_⟩
    refine q _ _ (Int.emod_nonneg _ (by omega)) (Int.emod_lt_of_pos _ hm0) ⟨x, y, z + 1, hb2, hx, hy, hy1, by omega, by omega⟩ fun a o na e => ?_
    rw [upd_ne na, upd_ne (ne_of_none e ht)]
    exact e
end
end SH

set_option Elab.async false
set_option linter.all false
set_option maxRecDepth 100000
namespace SH
open PySem L2
abbrev sKept : Stmt := topS 67
abbrev sNames : Stmt := topS 68
abbrev sNumber : Stmt := topS 69
theorem scKept : FnScope [] [] (defScope sKept) := ⟨rfl, rfl, rfl, by decide +kernel, rfl, by decide +kernel, by decide +kernel⟩
theorem scNames : FnScope ["_law_bag_here", "_law_many", "_law_letters", "_law_found", "_law_k", "_law_name", "_law_way", "_law_some", "_law_j", "_law_letter", "_law_one"] ["_law_bag_here", "_law_many"] (defScope sNames) := ⟨rfl, rfl, rfl, by decide +kernel, rfl, by decide +kernel, by decide +kernel⟩
theorem scNumber : FnScope ["_law_bag_here", "_law_way", "_law_found", "_law_k"] ["_law_bag_here"] (defScope sNumber) := ⟨rfl, rfl, rfl, by decide +kernel, rfl, by decide +kernel, by decide +kernel⟩
/-! ### mathematics -/
def kept : List Str := ["work", "room", "go", "call", "wait", "if", "else", "end", "give", "fail"]
def letters : Str := "abcdefghijklmnopqrstuvwxyz"
theorem menu {xs : List V} {i : Int} (h0 : 0 ≤ i) (h1 : i < xs.length) : ∃ v, atI xs i = some v ∧ v ∈ xs := by
  have hk : i.toNat < xs.length := by omega
  refine ⟨xs[i.toNat], ?_, List.getElem_mem hk⟩
  have q : atI xs ((i.toNat : Nat) : Int) = some xs[i.toNat] := atI_nat (List.getElem?_eq_getElem hk)
  rwa [show ((i.toNat : Nat) : Int) = i by omega] at q
theorem menuI {ns : List Int} {i : Int} (h0 : 0 ≤ i) (h1 : i < ns.length) : ∃ k, atI (ns.map V.int) i = some (.int k) ∧ k ∈ ns := by
  obtain ⟨v, e, m⟩ := menu (xs := ns.map V.int) h0 (by rw [List.length_map]; exact h1)
  obtain ⟨k, hk, rfl⟩ := List.mem_map.mp m
  exact ⟨k, e, hk⟩
theorem menuS {ns : List Str} {i : Int} (h0 : 0 ≤ i) (h1 : i < ns.length) : ∃ k, atI (ns.map V.str) i = some (.str k) ∧ k ∈ ns := by
  obtain ⟨v, e, m⟩ := menu (xs := ns.map V.str) h0 (by rw [List.length_map]; exact h1)
  obtain ⟨k, hk, rfl⟩ := List.mem_map.mp m
  exact ⟨k, e, hk⟩
theorem log_ok {i : Int} (h0 : 0 ≤ i) (h1 : i < 1000000 ^ 5) : i.natAbs.log2 < 1920 := by
  by_cases z : i.natAbs = 0
  · rw [z]; decide
  · rw [Nat.log2_lt z]
    have : i.natAbs < 2 ^ 100 := by
      have e : (1000000 : Int) ^ 5 = 1000000000000000000000000000000 := by decide
      have e2 : (2 : Nat) ^ 100 = 1267650600228229401496703205376 := by decide
      rw [e] at h1
      rw [e2]
      omega
    exact Nat.lt_trans this (Nat.pow_lt_pow_right (by decide) (by decide))
def codes (s : Str) : List Nat := s.cps.toList
theorem codes_len (s : Str) : (codes s).length = s.length := Array.length_toList
theorem codes_app (a b : Str) : codes (a ++ b) = codes a ++ codes b := by
  show (a.cps ++ b.cps).toList = _
  rw [Array.toList_append]
  all_goals rfl
theorem codes_inj {a b : Str} (h : codes a = codes b) : a = b := by
  cases a with | mk x =>
  cases b with | mk y =>
  have : x = y := Array.toList_inj.mp h
  rw [this]
/-- a text of one to eight letters -/
def nmOk (s : Str) : Prop := 1 ≤ (codes s).length ∧ (codes s).length ≤ 8 ∧ ∀ c ∈ codes s, 97 ≤ c ∧ c ≤ 122
structure NmsOk (l : List Str) : Prop where
  each : ∀ s ∈ l, nmOk s ∧ s ∉ kept
  nd : l.Nodup
theorem NmsOk.snoc {l : List Str} {s : Str} (h : NmsOk l) (a : nmOk s) (b : s ∉ l ++ kept) : NmsOk (l ++ [s]) := by
  refine ⟨fun x hx => ?_, ?_⟩
  · rcases List.mem_append.mp hx with hx | hx
    · exact h.each x hx
    · rw [List.mem_singleton.mp hx]
      exact ⟨a, fun q => b (List.mem_append_right _ q)⟩
  · exact nd_snoc h.nd fun q => b (List.mem_append_left _ q)
theorem join_codes : ∀ l : List Str, codes (PySem.Txt.join (PySem.Str.ofString "") l) = (l.map codes).flatten := by
  have step : ∀ l : List Str, codes (PySem.Str.join (PySem.Str.ofString "") l) = (l.map codes).flatten := by
    intro l
    induction l with
    | nil => rfl
    | cons a r ih =>
      cases r with
      | nil => show codes a = codes a ++ []; rw [List.append_nil]
      | cons b t =>
        show codes (a ++ PySem.Str.ofString "" ++ PySem.Str.join (PySem.Str.ofString "") (b :: t)) = codes a ++ ((b :: t).map codes).flatten
        rw [codes_app, codes_app, ih]
        have z : codes (PySem.Str.ofString "") = [] := by decide +kernel
        rw [z, List.append_nil]
  intro l
  show codes (Builtin.Str.glued (PySem.Str.ofString "") l) = _
  rw [StrLaws.glued_eq_join]
  exact step l
theorem pig : ∀ (xs L : List Str), xs.Nodup → L.length < xs.length → ∃ x ∈ xs, x ∉ L
  | [], L, _, h => absurd h (Nat.not_lt_zero _)
  | x :: r, L, hn, h => by
    obtain ⟨h1, h2⟩ := List.nodup_cons.mp hn
    by_cases hx : x ∈ L
    · have hl := List.length_erase_of_mem hx
      rw [List.length_cons] at h
      obtain ⟨y, hy, hyL⟩ := pig r (L.erase x) h2 (by have := List.length_pos_of_mem hx; omega)
      refine ⟨y, List.mem_cons_of_mem _ hy, fun q => hyL ?_⟩
      refine (List.mem_erase_of_ne ?_).mpr q
      intro e
      rw [e] at hy
      exact h1 hy
    · exact ⟨x, List.mem_cons_self, hx⟩
def one (c : Nat) : Str := ⟨#[c]⟩
theorem codes_one (c : Nat) : codes (one c) = [c] := rfl
/-- the twenty-six of a name: another first letter -/
def some26 (s : Str) : List Str := (codes letters).map fun c => one c ++ cutS s (some 1) none
theorem cut1 (s : Str) : codes (cutS s (some 1) none) = (codes s).drop 1 := by
  unfold cutS
  show (((s.cps.toList.drop (HT.sIx s.length 0 (some 1))).take (HT.sIx s.length s.length none - HT.sIx s.length 0 (some 1))).toArray).toList = _
  rw [List.toList_toArray, show HT.sIx s.length 0 (some 1) = min 1 s.length from HT.sIx_nat s.length 0 1, HT.sIx_none]
  show (List.drop (min 1 s.length) (codes s)).take (s.length - min 1 s.length) = (codes s).drop 1
  rw [← codes_len]
  cases hc : codes s with
  | nil => rfl
  | cons x r =>
    rw [show min 1 (x :: r).length = 1 by rw [List.length_cons]; omega]
    show r.take ((x :: r).length - 1) = r
    rw [List.length_cons, Nat.add_sub_cancel, List.take_length]
theorem cutN {s : Str} {n : Nat} : codes (cutS s none (some (n : Int))) = (codes s).take n := by
  unfold cutS
  show (((s.cps.toList.drop (HT.sIx s.length 0 none)).take (HT.sIx s.length s.length (some (n : Int)) - HT.sIx s.length 0 none)).toArray).toList = _
  rw [List.toList_toArray, HT.sIx_nat, HT.sIx_none]
  show (List.drop 0 (codes s)).take (min n s.length - 0) = (codes s).take n
  rw [List.drop_zero, Nat.sub_zero, ← codes_len]
  by_cases h : n ≤ (codes s).length
  · rw [Nat.min_eq_left h]
  · rw [Nat.min_eq_right (by omega), List.take_length, List.take_of_length_le (by omega)]
theorem some26_nd (s : Str) : (some26 s).Nodup := by
  have base : (codes letters).Nodup := by decide +kernel
  unfold some26
  refine List.Pairwise.map _ ?_ base
  intro a b hab e
  have q := congrArg codes e
  rw [codes_app, codes_app, codes_one, codes_one] at q
  exact hab (List.cons.inj q).1
theorem some26_len (s : Str) : (some26 s).length = 26 := by
  unfold some26
  rw [List.length_map]
  decide +kernel
theorem letters_ok : ∀ c ∈ codes letters, 97 ≤ c ∧ c ≤ 122 := by decide +kernel
theorem kept_ok : ∀ s ∈ kept, ∀ c ∈ codes s, 97 ≤ c ∧ c ≤ 122 := by decide +kernel
theorem kept_pos : ∀ s ∈ kept, 1 ≤ (codes s).length ∧ (codes s).length ≤ 4 := by decide +kernel
theorem some26_ok {s t : Str} (h : nmOk s) (ht : t ∈ some26 s) : nmOk t := by
  unfold some26 at ht
  obtain ⟨c, hc, rfl⟩ := List.mem_map.mp ht
  obtain ⟨h1, h2, h3⟩ := h
  have e : codes (one c ++ cutS s (some 1) none) = c :: (codes s).drop 1 := by rw [codes_app, codes_one, cut1]; rfl
  refine ⟨?_, ?_, ?_⟩
  · rw [e, List.length_cons]; omega
  · rw [e, List.length_cons, List.length_drop]; omega
  · rw [e]
    intro x hx
    rcases List.mem_cons.mp hx with rfl | hx
    · exact letters_ok _ hc
    · exact h3 _ (List.mem_of_mem_drop hx)
theorem inV_str {x : Str} : ∀ {l : List Str}, inV (.str x) (l.map V.str) = decide (x ∈ l)
  | [] => rfl
  | y :: r => by
    show (eqV (.str y) (.str x) || inV (.str x) (r.map V.str)) = _
    rw [inV_str (l := r)]
    show ((y == x) || decide (x ∈ r)) = _
    by_cases e : x = y
    · subst e; simp
    · have e' : (y == x) = false := by simpa using fun h => e h.symm
      rw [e', Bool.false_or]
      simp [e]
theorem flat_strs (l : List Str) : (l.map V.str).all flatV = true := by
  rw [List.all_eq_true]
  intro x hx
  obtain ⟨s, _, rfl⟩ := List.mem_map.mp hx
  rfl
def spKept : Sp := fun vs H Q _ => vs = [] ∧ ∀ p, H p = none → Q (.ref p) (upd H p (.lst (kept.map V.str)))
def spNumber : Sp := fun vs H Q _ => ∃ (b : Addr) (n : Nat), vs = [.ref b] ∧ Bag H b (n + 8) ∧
  ∀ (i : Int) (H' : Hp), 0 ≤ i → i < 1000000 ^ 5 → Bag H' b n → But b H H' → Q (.int i) H'
def spNames : Sp := fun vs H Q _ => ∃ (b : Addr) (m n : Nat), vs = [.ref b, .int m] ∧ m ≤ 12 ∧ Bag H b (n + 16 * m) ∧
  ∀ (p : Addr) (nm : List Str) (H' : Hp), H p = none → H' p = some (.lst (nm.map V.str)) → nm.length = m → NmsOk nm → Bag H' b n → But b H H' → Q (.ref p) H'
section
variable {P : Program} {w : World} {K : PySem.W.Frag} {mg : Str → Option Value} {base : Heap}
theorem ok_kept {f : Addr} {fd : FuncData} (F : Fun K "_law_kept" "_law_kept" sKept f fd) : FnOk P w K mg base CX0 1 f fd [] spKept := by
  refine F.ok scKept (fun vs H Q E h => ?_) (fun cdv A outer s H vs Q E hr h => ?_)
  · obtain ⟨rfl, _⟩ := h
    rfl
  obtain ⟨rfl, q⟩ := h
  refine ⟨_, (pss_one (ps_ret (pe_lst (pa_cons pe_str (pa_cons pe_str (pa_cons pe_str (pa_cons pe_str (pa_cons pe_str (pa_cons pe_str (pa_cons pe_str (pa_cons pe_str (pa_cons pe_str (pa_cons pe_str pa_nil))))))))))))), ?_⟩
  exact ⟨by show 10 ≤ sizeLine; decide, fun p hp => q p hp⟩
theorem But.new {b : Addr} {H : Hp} {p : Addr} (h : H p = none) (o : HO) : But b H (upd H p o) := .of (same_new h o)
theorem ok_number {f t : Addr} {fd td : FuncData} (F : Fun K "_law_number" "_law_number" sNumber f fd) (TK : Fk P w K mg base 1 "_law_take" t td ["_law_bag_here", "_law_many"] spTake) (T : Bi mg) :
    FnOk P w K mg base CX0 2 f fd ["_law_bag_here"] spNumber := by
  refine F.ok scNumber (fun vs H Q E h => ?_) (fun cdv A outer s H vs Q E hr h => ?_)
  · obtain ⟨b, n, rfl, _⟩ := h
    rfl
  obtain ⟨b, n, rfl, hB, q⟩ := h
  refine ⟨_, (pss_cons (ps_set (i := 1) scNumber.nd rfl (Or.inl rfl) (pe_call TK.G (hr.mono (by omega)) (by rfl) TK.m TK.k TK.b .nil pass0 (pa_cons (pv 0) (pa_cons pe_int pa_nil))))
    (pss_cons (ps_if (pt_cmpR op_lt (pv 1) pe_int (nomark _))
      (pss_one (ps_ret (pe_call TK.G (hr.mono (by omega)) (by rfl) TK.m TK.k TK.b .nil pass0 (pa_cons (pv 0) (pa_cons (pe_ix ix_list (pe_lst (pa_cons pe_int (pa_cons pe_int pa_nil))) (pv 1) (fun _ _ => rfl)) pa_nil)))))
      pss_nil)
    (pss_cons (ps_set (i := 2) scNumber.nd rfl (Or.inl rfl) pe_int)
    (pss_cons (ps_for PassesOwn.never rfl (pi_range1 (by rfl) T.range (pa_cons (pe_ix ix_list (pe_lst (pa_cons pe_int (pa_cons pe_int pa_nil))) (pe_op op_sub (pv 1) pe_int) (fun _ _ => rfl)) pa_nil)) (pg_name (i := 3) scNumber.nd rfl (.inl rfl))
      (pss_one (ps_set (i := 2) scNumber.nd rfl (Or.inl rfl) (pe_op op_add (pe_op op_mul (pv 2) (pe_op op_pow pe_int pe_int)) (pe_call TK.G (hr.mono (by omega)) (by rfl) TK.m TK.k TK.b .nil pass0 (pa_cons (pv 0) (pa_cons (pe_op op_pow pe_int pe_int) pa_nil)))))))
    (pss_one (ps_ret (pv 2))))))), ?_⟩
  refine ⟨_, rfl, b, 4, n + 7, rfl, by decide, by decide, hB, fun d1 H1 a1 a2 B1 U1 => ?_⟩
  refine ⟨_, rfl, _, _, rfl, rfl, _, rfl, ?_⟩
  refine ite2 (fun c => ?_) (fun c => ?_)
  · have c' : d1 < 2 := of_decide_eq_true c
    obtain ⟨v, e, hv⟩ := menuI (ns := [4, 30]) a1 (by show d1 < 2; exact c')
    have hv' : v = 4 ∨ v = 30 := by simpa using hv
    refine ⟨_, rfl, (by show 2 ≤ sizeLine; decide), fun l hl => ?_⟩
    refine ⟨_, rfl, l, _, _, _, rfl, rfl, SqL.of upd_same, e, b, v, n + 6, rfl, by omega, by omega, B1.same (same_new hl _), fun d2 H2 b1 b2 B2 U2 => ?_⟩
    refine q _ _ b1 ?_ (B2.less (by omega)) (U1.trans ((But.new hl _).trans U2))
    have e : (1000000 : Int) ^ 5 = 1000000000000000000000000000000 := by decide
    rw [e]
    omega
  · have c' : ¬ d1 < 2 := of_decide_eq_false (Bool.eq_false_iff.mpr c)
    obtain ⟨v, e, hv⟩ := menuI (ns := [2, 5]) (i := d1 - 2) (by omega) (by show d1 - 2 < 2; omega)
    have hv' : v = 2 ∨ v = 5 := by simpa using hv
    refine ⟨(by show 2 ≤ sizeLine; decide), fun l hl => ?_⟩
    refine ⟨_, rfl, _, _, rfl, rfl, l, _, _, _, rfl, rfl, SqL.of upd_same, e, v, rfl, by omega, by omega, ?_⟩
    refine for_range (lo := 0) (n := v.toNat) (fun i σ H' => ∃ (c : Int) (y : Option V), σ = [some (.ref b), some (.int d1), some (.int c), y] ∧ 0 ≤ c ∧ c < 1000000 ^ i ∧ Bag H' b (n + 5 - i) ∧ But b H H') ?_ ?_ ?_
    · exact ⟨0, none, rfl, Int.le_refl _, by decide, (B1.same (same_new hl _)).less (by omega), U1.trans (But.new hl _)⟩
    · rintro i σ H2 hi ⟨c, y, rfl, c0, c1, B2, U2⟩
      refine ⟨_, rfl, _, _, rfl, rfl, ⟨by decide, by decide, by decide⟩, _, _, rfl, rfl, .inr ⟨by decide, by decide⟩, ?_⟩
      refine ⟨_, rfl, _, _, rfl, rfl, ⟨by decide, by decide, by decide⟩, b, _, n + 4 - i, rfl, by decide, by decide, B2.less (by omega), fun d2 H3 b1 b2 B3 U3 => ?_⟩
      refine ⟨_, _, rfl, rfl, _, _, rfl, ?_, ?_, B3.less (by omega), U2.trans U3⟩
      · show 0 ≤ c * 1000000 + d2
        omega
      · have b2' : d2 < 1000000 := b2
        show c * 1000000 + d2 < 1000000 ^ (i + 1)
        rw [Int.pow_succ]
        generalize (1000000 : Int) ^ i = X at c1 ⊢
        omega
    · rintro σ H2 ⟨c, y, rfl, c0, c1, B2, U2⟩
      refine ⟨_, rfl, q c H2 c0 ?_ (B2.less (by omega)) U2⟩
      rcases hv' with rfl | rfl
      · exact Int.lt_trans c1 (by decide)
      · exact c1
end
end SH

set_option Elab.async false
set_option linter.all false
set_option maxRecDepth 100000
namespace SH
open PySem L2
theorem signs_ok {l : List Str} (h1 : 1 ≤ l.length) (h8 : l.length ≤ 8) (h : ∀ s ∈ l, ∃ c, s = one c ∧ 97 ≤ c ∧ c ≤ 122) : nmOk (PySem.Txt.join (PySem.Str.ofString "") l) := by
  have e : ∀ l : List Str, (∀ s ∈ l, ∃ c, s = one c ∧ 97 ≤ c ∧ c ≤ 122) → ((l.map codes).flatten).length = l.length ∧ ∀ c ∈ (l.map codes).flatten, 97 ≤ c ∧ c ≤ 122 := by
    intro l
    induction l with
    | nil => intro _; exact ⟨rfl, fun c hc => by cases hc⟩
    | cons a r ih =>
      intro h
      obtain ⟨i1, i2⟩ := ih fun s hs => h s (List.mem_cons_of_mem _ hs)
      obtain ⟨c, rfl, c1, c2⟩ := h a List.mem_cons_self
      refine ⟨?_, ?_⟩
      · show (c :: (r.map codes).flatten).length = r.length + 1
        rw [List.length_cons, i1]
      · intro x hx
        rcases List.mem_cons.mp (show x ∈ c :: (r.map codes).flatten from hx) with rfl | hx
        · exact ⟨c1, c2⟩
        · exact i2 x hx
  obtain ⟨e1, e2⟩ := e l h
  refine ⟨?_, ?_, ?_⟩
  · rw [join_codes, e1]; exact h1
  · rw [join_codes, e1]; exact h8
  · rw [join_codes]; exact e2
theorem pre_ok {k s : Str} {n : Nat} (hk : k ∈ kept) (hs : nmOk s) (h1 : 1 ≤ n) (h8 : n ≤ 8) : nmOk (cutS (k ++ s) none (some (n : Int))) := by
  obtain ⟨k1, k2⟩ := kept_pos k hk
  obtain ⟨s1, s2, s3⟩ := hs
  refine ⟨?_, ?_, ?_⟩
  · rw [cutN, codes_app, List.length_take, List.length_append]; omega
  · rw [cutN, List.length_take]; omega
  · rw [cutN, codes_app]
    intro c hc
    rcases List.mem_append.mp (List.mem_of_mem_take hc) with h | h
    · exact kept_ok k hk c h
    · exact s3 c h
theorem ones_len : ∀ l : List Str, (∀ s ∈ l, ∃ c, s = one c ∧ 97 ≤ c ∧ c ≤ 122) → (l.map (·.length)).sum = l.length
  | [], _ => rfl
  | a :: r, h => by
    have ih := ones_len r fun s hs => h s (List.mem_cons_of_mem _ hs)
    obtain ⟨c, rfl, _⟩ := h a List.mem_cons_self
    show (one c).length + (r.map (·.length)).sum = r.length + 1
    rw [ih]
    show 1 + r.length = r.length + 1
    omega
theorem letter_at {i : Int} (h0 : 0 ≤ i) (h1 : i < 26) : ∃ c, atI letters.cps.toList i = some c ∧ 97 ≤ c ∧ c ≤ 122 := by
  have hl : (codes letters).length = 26 := by decide +kernel
  have hk : i.toNat < (codes letters).length := by omega
  refine ⟨(codes letters)[i.toNat], ?_, letters_ok _ (List.getElem_mem hk)⟩
  have q : atI (codes letters) ((i.toNat : Nat) : Int) = some (codes letters)[i.toNat] := atI_nat (List.getElem?_eq_getElem hk)
  rwa [show ((i.toNat : Nat) : Int) = i by omega] at q
theorem filt_snoc {l : List Str} {L : List Str} {i : Nat} {x : Str} (h : l[i]? = some x) : (l.take (i + 1)).filter (fun y => !decide (y ∈ L)) = (l.take i).filter (fun y => !decide (y ∈ L)) ++ (if (!decide (x ∈ L)) = true then [x] else []) := by
  rw [List.take_add_one, h, List.filter_append]
  congr 1
  show List.filter _ [x] = _
  rw [List.filter_cons, List.filter_nil]
theorem names_len {l : List Str} (h : NmsOk l) : True := trivial
section
variable {P : Program} {w : World} {K : PySem.W.Frag} {mg : Str → Option Value} {base : Heap}
theorem ok_names {f t k : Addr} {fd td kd : FuncData} (F : Fun K "_law_names" "_law_names" sNames f fd) (TK : Fk P w K mg base 1 "_law_take" t td ["_law_bag_here", "_law_many"] spTake) (KP : Fk P w K mg base 1 "_law_kept" k kd [] spKept) (T : Bi mg) :
    FnOk P w K mg base CX0 2 f fd ["_law_bag_here", "_law_many"] spNames := by
  refine F.ok scNames (fun vs H Q E h => ?_) (fun cdv A outer s H vs Q E hr h => ?_)
  · obtain ⟨b, m, n, rfl, _⟩ := h
    rfl
  obtain ⟨b, m, n, rfl, hm, hB, q⟩ := h
  refine ⟨_, (pss_cons (ps_set (i := 2) scNames.nd rfl (Or.inr rfl) pe_str)
    (pss_cons (ps_set (i := 3) scNames.nd rfl (Or.inr rfl) (pe_lst pa_nil))
    (pss_cons (ps_for PassesOwn.never rfl (pi_range1 (by rfl) T.range (pa_cons (pv 1) pa_nil)) (pg_name (i := 4) scNames.nd rfl (.inl rfl))
      (pss_cons (ps_set (i := 5) scNames.nd rfl (Or.inr rfl) (pe_join pe_str (pe_lc (own := [("_law_j", 8)]) (g := gName 8) (tt := tYes) (by rfl) scNames.nd (pi_range1 (by rfl) T.range (pa_cons (pe_ix ix_list (pe_lst (pa_cons pe_int (pa_cons pe_int (pa_cons pe_int (pa_cons pe_int pa_nil))))) (pe_call TK.G (hr.mono (by omega)) (by rfl) TK.m TK.k TK.b .nil pass0 (pa_cons (pv 0) (pa_cons pe_int pa_nil))) (fun _ _ => rfl)) pa_nil)) (blkOk_by (own := [("_law_j", 8)]) (N := ["_law_bag_here", "_law_many", "_law_letters", "_law_found", "_law_k", "_law_name", "_law_way", "_law_some", "_law_j", "_law_letter", "_law_one"]) (sc := defScope sNames) (by decide +kernel)) (fun _ _ _ _ _ => pg_name (i := 8) scNames.nd rfl (Or.inl rfl)) (fun _ _ _ _ _ => pts_nil) (fun _ _ _ _ _ => (pe_ix ix_str (pv 2) (pe_call TK.G (hr.mono (by omega)) (by rfl) TK.m TK.k TK.b .nil pass0 (pa_cons (pv 0) (pa_cons pe_int pa_nil))) (fun _ _ => rfl))))))
    (pss_cons (ps_set (i := 6) scNames.nd rfl (Or.inl rfl) (pe_call TK.G (hr.mono (by omega)) (by rfl) TK.m TK.k TK.b .nil pass0 (pa_cons (pv 0) (pa_cons pe_int pa_nil))))
    (C8.pss_cut (ps_if (pt_cmpR op_lt (pv 6) pe_int (nomark _))
      (pss_one (ps_set (i := 5) scNames.nd rfl (Or.inr rfl) (pe_slice sl_str (pe_op op_add_str (pe_ix ix_list (pe_call0 KP.G (hr.mono (by omega)) (by rfl) KP.m KP.k KP.b .nil pass0) (pe_call TK.G (hr.mono (by omega)) (by rfl) TK.m TK.k TK.b .nil pass0 (pa_cons (pv 0) (pa_cons pe_int pa_nil))) (fun _ _ => rfl)) (pv 5)) po_none (po_some (pe_ix ix_list (pe_lst (pa_cons pe_int (pa_cons pe_int pa_nil))) (pv 6) (fun _ _ => rfl))))))
      pss_nil)
    (pss_cons (ps_setLc (i := 7) (own := [("_law_letter", 9)]) (g := gName 9) (tt := tYes) (by rfl) scNames.nd rfl rfl (sw_true rfl rfl rfl (by decide +kernel)) (pi_str (pv 2)) (blkOk_by (own := [("_law_letter", 9)]) (N := ["_law_bag_here", "_law_many", "_law_letters", "_law_found", "_law_k", "_law_name", "_law_way", "_law_some", "_law_j", "_law_letter", "_law_one"]) (sc := defScope sNames) (by decide +kernel)) (fun _ _ _ _ _ => pg_name (i := 9) scNames.nd rfl (Or.inl rfl)) (fun _ _ _ _ _ => pts_nil) (fun _ _ _ _ _ => (pe_op op_add_str (pv 9) (pe_slice sl_str (pv 5) (po_some pe_int) po_none))))
    (C8.pss_cut (ps_if (pt_cmpR op_in_seq (pv 5) (pe_op op_cat (pv 3) (pe_call0 KP.G (hr.mono (by omega)) (by rfl) KP.m KP.k KP.b .nil pass0)) rfl)
      (pss_one (ps_set (i := 5) scNames.nd rfl (Or.inr rfl) (pe_ix ix_list (pe_lc (own := [("_law_one", 10)]) (g := gName 10) (tt := tTest (tOp (rIn K true) (tVar 10) (tOp rCat (tVar 3) (tCall spKept [] E0 tNil)))) (by rfl) scNames.nd (pi_list (pv 7)) (blkOk_by (own := [("_law_one", 10)]) (N := ["_law_bag_here", "_law_many", "_law_letters", "_law_found", "_law_k", "_law_name", "_law_way", "_law_some", "_law_j", "_law_letter", "_law_one"]) (sc := defScope sNames) (by decide +kernel)) (fun _ _ _ _ _ => pg_name (i := 10) scNames.nd rfl (Or.inl rfl)) (fun _ _ _ _ _ => (pts_one (pt_cmpR (op_notIn_seqK K) (pv 10) (pe_op op_cat (pv 3) (pe_call0 KP.G (hr.mono (by omega)) (by rfl) KP.m KP.k KP.b .nil pass0)) rfl))) (fun _ _ _ _ _ => (pv 10))) pe_int (fun _ _ => rfl))))
      pss_nil)
    (pss_one (ps_expr (pe_bm PySem.F.plainAttrs_list PySem.F.slot_list_append PySem.F.type_list_append mt_append (pv 3) (pa_cons (pv 5) pa_nil))))))))))
    (pss_one (ps_ret (pv 3)))))), ?_⟩
  have hs : sizeLine = 16777216 := by decide
  refine ⟨Nat.zero_le _, fun p hp => ?_⟩
  obtain ⟨ys0, hb0⟩ := hB.lst
  have npb : p ≠ b := fun e => by rw [e, hb0] at hp; cases hp
  refine ⟨_, rfl, m, rfl, by omega, by omega, ?_⟩
  refine for_range (lo := 0) (n := (m : Int).toNat) (fun i σ H' => ∃ (nm : List Str) (y4 y5 y6 y7 : Option V), σ = [some (.ref b), some (.int m), some (.str letters), some (.ref p), y4, y5, y6, y7, none, none, none] ∧
    H' p = some (.lst (nm.map V.str)) ∧ nm.length = i ∧ NmsOk nm ∧ Bag H' b (n + 16 * (m - i)) ∧ But b H H') ?_ ?_ ?_
  · exact ⟨[], none, none, none, none, rfl, upd_same, rfl, ⟨fun s h => (by cases h), List.nodup_nil⟩, hB.same (same_new hp _), But.new hp _⟩
  · rintro i σ H1 hi ⟨nm, y4, y5, y6, y7, rfl, hp1, hl, hN, B1, U1⟩
    have hi' : i < m := by omega
    -- the name by its letters
    refine ⟨⟨_, rfl⟩, (by show 4 ≤ sizeLine; decide), fun l1 hl1 => ?_⟩
    refine ⟨_, rfl, b, 4, n + 16 * (m - i) - 1, rfl, by decide, by decide, (B1.same (same_new hl1 _)).less (by omega), fun d1 H2 a1 a2 B2 U2 => ?_⟩
    have nb1 : l1 ≠ b := fun e => by obtain ⟨ys, hy⟩ := B1.lst; rw [e, hy] at hl1; cases hl1
    have hl2 : H2 l1 = some (.lst (([1, 2, 3, 8] : List Int).map V.int)) := U2 _ _ nb1 upd_same
    obtain ⟨v, ev, hv⟩ := menuI (ns := [1, 2, 3, 8]) a1 (by show d1 < 4; exact a2)
    have hv' : 1 ≤ v ∧ v ≤ 8 := by
      have : v = 1 ∨ v = 2 ∨ v = 3 ∨ v = 8 := by simpa using hv
      omega
    refine ⟨l1, _, _, _, rfl, rfl, SqL.of hl2, ev, v, rfl, by omega, by omega, ?_⟩
    intro D hD
    have hp2 : H2 p = some (.lst (nm.map V.str)) := U2 _ _ npb ((same_new hl1 _) _ _ hp1)
    have nDb : D ≠ b := fun e => by obtain ⟨ys, hy⟩ := B2.lst; rw [e, hy] at hD; cases hD
    have nDp : D ≠ p := fun e => by rw [e, hp2] at hD; cases hD
    have U12 : But b H1 H2 := (But.new hl1 _).trans U2
    refine lc_range (lo := 0) (n := v.toNat) (fun j H' => ∃ ss : List Str, H' D = some (.lst (ss.map V.str)) ∧ ss.length = j ∧ (∀ s ∈ ss, ∃ c, s = one c ∧ 97 ≤ c ∧ c ≤ 122) ∧ Bag H' b (n + 16 * (m - i) - 1 - j) ∧ (∀ a o, a ≠ b → a ≠ D → H2 a = some o → H' a = some o)) ?_ ?_ ?_
    · refine ⟨[], upd_same, rfl, fun s h => (by cases h), (B2.same (same_new hD _)).less (by omega), fun a o _ _ e => (same_new hD _) _ _ e⟩
    · rintro j H3 hj ⟨ss, hD3, hss, hone, B3, U3⟩
      refine ⟨rfl, ?_⟩
      refine ⟨_, rfl, _, rfl, b, 26, n + 16 * (m - i) - 2 - j, rfl, by decide, by decide, B3.less (by omega), fun d2 H4 b1 b2 B4 U4 => ?_⟩
      obtain ⟨c, ec, c1, c2⟩ := letter_at b1 b2
      refine ⟨letters, _, c, rfl, rfl, (by show letters.length ≤ sizeLine; decide +kernel), ec, ?_⟩
      refine ⟨_, U4 _ _ nDb hD3, by rw [List.length_map, hss]; omega, ss ++ [one c], ?_, by rw [List.length_append, hss]; rfl, ?_, ?_, ?_⟩
      · rw [upd_same, List.map_append]
        rfl
      · intro s hs'
        rcases List.mem_append.mp hs' with h | h
        · exact hone s h
        · exact ⟨c, List.mem_singleton.mp h, c1, c2⟩
      · have B5 : Bag (upd H4 D (.lst (ss.map V.str ++ [V.str (one c)]))) b (n + 16 * (m - i) - 2 - j) := by
          obtain ⟨x, y, z, e, r⟩ := B4
          exact ⟨x, y, z, by rw [upd_ne (Ne.symm nDb)]; exact e, r⟩
        exact B5.less (by omega)
      · intro a o na nd e
        rw [upd_ne nd]
        exact U4 _ _ na (U3 a o na nd e)
    · rintro H3 ⟨ss, hD3, hss, hone, B3, U3⟩
      have hp3 : H3 p = some (.lst (nm.map V.str)) := U3 _ _ npb (Ne.symm nDp) hp2
      have U13 : But b H1 H3 := fun a o na e => U3 a o na (ne_of_none (U12 a o na e) hD) (U12 a o na e)
      refine ⟨_, D, ss, rfl, rfl, .inl (SqL.of hD3), ?_, ?_⟩
      · rw [ones_len ss hone, hss]
        have z : (PySem.Str.ofString "").length = 0 := by decide
        rw [z]
        omega
      have nok : nmOk (PySem.Txt.join (PySem.Str.ofString "") ss) := signs_ok (by rw [hss]; omega) (by rw [hss]; omega) hone
      generalize PySem.Txt.join (PySem.Str.ofString "") ss = nme at nok
      -- its way
      refine ⟨_, rfl, b, 8, n + 16 * (m - i) - 10, rfl, by decide, by decide, B3.less (by omega), fun d3 H4 c1 c2 B4 U4 => ?_⟩
      have hp4 : H4 p = some (.lst (nm.map V.str)) := U4 _ _ npb hp3
      refine ⟨fun σ' H' => ∃ nme', nmOk nme' ∧ σ' = [some (.ref b), some (.int m), some (.str letters), some (.ref p), some (.int (0 + i)), some (.str nme'), some (.int d3), y7, none, none, none] ∧ H' p = some (.lst (nm.map V.str)) ∧ Bag H' b (n + 16 * (m - i) - 11) ∧ But b H1 H', ?_, ?_⟩
      · refine ⟨_, rfl, _, _, rfl, rfl, _, rfl, ?_⟩
        refine ite2 (fun c => ?_) (fun c => ?_)
        · have c' : d3 < 2 := of_decide_eq_true c
          refine ⟨rfl, fun kp hkp => ?_⟩
          have nkb : kp ≠ b := fun e => by obtain ⟨ys, hy⟩ := B4.lst; rw [e, hy] at hkp; cases hkp
          refine ⟨_, rfl, b, 10, n + 16 * (m - i) - 11, rfl, by decide, by decide, (B4.same (same_new hkp _)).less (by omega), fun d4 H5 e1 e2 B5 U5 => ?_⟩
          obtain ⟨kw, ek, hk⟩ := menuS (ns := kept) e1 (by show d4 < 10; exact e2)
          have hk5 : H5 kp = some (.lst (kept.map V.str)) := U5 _ _ nkb upd_same
          refine ⟨kp, _, _, _, rfl, rfl, SqL.of hk5, ek, _, rfl, kw, nme, rfl, rfl, ?_, ?_⟩
          · have k2 := (kept_pos kw hk).2
            have n2 := nok.2.1
            rw [codes_len] at k2 n2
            omega
          obtain ⟨lim, el, hlim⟩ := menuI (ns := [8, 5]) c1 (by show d3 < 2; exact c')
          have hlim' : lim = 8 ∨ lim = 5 := by simpa using hlim
          refine ⟨(by show 2 ≤ sizeLine; decide), fun l2 hl2' => ?_⟩
          refine ⟨_, rfl, l2, _, _, _, rfl, rfl, SqL.of upd_same, el, _, rfl, kw ++ nme, rfl, ?_, ?_⟩
          · have k2 := (kept_pos kw hk).2
            have n2 := nok.2.1
            rw [codes_len] at k2 n2
            rw [app_len]
            omega
          refine ⟨cutS (kw ++ nme) none (some lim), ?_, rfl, ?_, ?_, ?_⟩
          · rcases hlim' with rfl | rfl
            · exact pre_ok (n := 8) hk nok (by decide) (by decide)
            · exact pre_ok (n := 5) hk nok (by decide) (by decide)
          · exact (same_new hl2' _) _ _ (U5 _ _ npb ((same_new hkp _) _ _ hp4))
          · exact B5.same (same_new hl2' _)
          · exact U13.trans (U4.trans ((But.new hkp _).trans (U5.trans (But.new hl2' _))))
        · exact ⟨nme, nok, rfl, hp4, B4.less (by omega), U13.trans U4⟩
      · rintro σ' H5 ⟨nme', nok', rfl, hp5, B5, U5⟩
        -- the twenty-six others
        refine ⟨_, rfl, letters, rfl, ?_⟩
        intro D2 hD2
        have nD2b : D2 ≠ b := fun e => by obtain ⟨ys, hy⟩ := B5.lst; rw [e, hy] at hD2; cases hD2
        have sz : letters.cps.size = 26 := by decide +kernel
        refine lc_it walk_str (fun j H' => H' = upd H5 D2 (.lst (((some26 nme').take j).map V.str))) rfl (fun _ _ _ _ => trivial) ?_ ?_
        · rintro j x H6 H7 hj rfl ⟨rfl, c, hc, rfl⟩
          refine ⟨rfl, ?_⟩
          refine ⟨_, rfl, _, rfl, 1, rfl, nme', rfl, ?_, one c, _, rfl, rfl, ?_, ?_⟩
          · have := nok'.2.1
            rw [codes_len] at this
            omega
          · have := nok'.2.1
            have e1 := cut1 nme'
            have e2 := congrArg List.length e1
            rw [codes_len, List.length_drop] at e2
            have e3 : (one c).length = 1 := rfl
            omega
          · refine ⟨_, upd_same, ?_, ?_⟩
            · rw [List.length_map, List.length_take]
              omega
            · have hx : (some26 nme')[j]? = some (one c ++ cutS nme' (some 1) none) := by
                unfold some26
                rw [List.getElem?_map, show (codes letters)[j]? = some c from by unfold codes; rw [Array.getElem?_toList]; exact hc]
                rfl
              rw [List.take_add_one, hx, List.map_append]
              funext a
              by_cases ha : a = D2
              · subst ha
                rw [upd_same, upd_same]
                rfl
              · rw [upd_ne ha, upd_ne ha, upd_ne ha]
        · rintro H6 rfl
          have e26 : (some26 nme').take letters.cps.size = some26 nme' := List.take_of_length_le (by rw [some26_len, sz]; omega)
          rw [e26]
          have s6 : Same H5 (upd H5 D2 (.lst ((some26 nme').map V.str))) := same_new hD2 _
          have hD6 : (upd H5 D2 (.lst ((some26 nme').map V.str))) D2 = some (.lst ((some26 nme').map V.str)) := upd_same
          generalize upd H5 D2 (.lst ((some26 nme').map V.str)) = H6 at s6 hD6
          have hp6 := s6 _ _ hp5
          have B6 := B5.same s6
          have len12 : (nm ++ kept).length ≤ 22 := by
            rw [List.length_append]
            have : kept.length = 10 := rfl
            omega
          refine ⟨fun σ' H' => ∃ fin, nmOk fin ∧ fin ∉ nm ++ kept ∧ σ' = [some (.ref b), some (.int m), some (.str letters), some (.ref p), some (.int (0 + i)), some (.str fin), some (.int d3), some (.ref D2), none, none, none] ∧ Same H6 H', ?_, ?_⟩
          · refine ⟨_, rfl, _, rfl, rfl, fun kp hkp => ?_⟩
            have sk : Same H6 (upd H6 kp (.lst (kept.map V.str))) := same_new hkp _
            refine ⟨p, kp, _, _, rfl, rfl, sk _ _ hp6, upd_same, ?_, fun u hu => ?_⟩
            · rw [List.length_map, List.length_map]
              have : kept.length = 10 := rfl
              omega
            have su : Same _ _ := same_new hu (.lst (nm.map V.str ++ kept.map V.str))
            refine ⟨u, _, rfl, .inl (SqL.of upd_same), rfl, ?_, _, rfl, ?_⟩
            · rw [← List.map_append]; exact flat_strs _
            rw [← List.map_append] at su ⊢
            rw [if_neg Bool.false_ne_true, inV_str]
            refine ite2 (fun c => ?_) (fun c => ?_)
            · have su' := sk.trans su
              generalize upd (upd H6 kp (.lst (kept.map V.str))) u (.lst ((nm ++ kept).map V.str)) = H8 at su'
              -- [one for one in some if ..][0]
              refine ⟨_, rfl, D2, rfl, ⟨_, SqL.of (su' _ _ hD6)⟩, ?_⟩
              intro D3 hD3
              refine lc_list (K := K) (a := D2) (xs := (some26 nme').map V.str) (fun j H' => H' D3 = some (.lst ((((some26 nme').take j).filter (fun y => !decide (y ∈ nm ++ kept))).map V.str)) ∧ Same H8 H') ⟨upd_same, same_new hD3 _⟩ (fun j H' _ h => SqL.of (h.2 _ _ (su' _ _ hD6))) ?_ ?_
              · rintro j x H9 hx ⟨h9, s9⟩
                obtain ⟨x', hx', rfl⟩ : ∃ x', (some26 nme')[j]? = some x' ∧ V.str x' = x := by
                  rw [List.getElem?_map] at hx
                  obtain ⟨x', h1, h2⟩ := Option.map_eq_some_iff.mp hx
                  exact ⟨x', h1, h2⟩
                have hj26 : j < 26 := by
                  obtain ⟨h1, _⟩ := List.getElem?_eq_some_iff.mp hx'
                  rwa [some26_len] at h1
                refine ⟨rfl, ?_⟩
                refine ⟨_, rfl, _, rfl, rfl, fun kp2 hkp2 => ?_⟩
                have sk2 : Same H9 (upd H9 kp2 (.lst (kept.map V.str))) := same_new hkp2 _
                refine ⟨p, kp2, _, _, rfl, rfl, sk2 _ _ (s9 _ _ (su' _ _ hp6)), upd_same, ?_, fun u2 hu2 => ?_⟩
                · rw [List.length_map, List.length_map]
                  have : kept.length = 10 := rfl
                  omega
                have su2 : Same _ _ := same_new hu2 (.lst (nm.map V.str ++ kept.map V.str))
                refine ⟨u2, _, rfl, .inl (SqL.of upd_same), rfl, ?_, _, rfl, ?_⟩
                · rw [← List.map_append]; exact flat_strs _
                rw [← List.map_append] at su2 ⊢
                rw [if_pos rfl, inV_str]
                have s10 := sk2.trans su2
                generalize upd (upd H9 kp2 (.lst (kept.map V.str))) u2 (.lst ((nm ++ kept).map V.str)) = H10 at s10
                have fs := filt_snoc (L := nm ++ kept) hx'
                refine ite2 (fun c2 => ?_) (fun c2 => ?_)
                · refine ⟨_, rfl, _, s10 _ _ h9, ?_, ?_, ?_⟩
                  · rw [List.length_map]
                    have := List.length_filter_le (fun y => !decide (y ∈ nm ++ kept)) ((some26 nme').take j)
                    rw [List.length_take, some26_len] at this
                    omega
                  · rw [upd_same, fs, if_pos c2, List.map_append]
                    rfl
                  · intro a o e
                    rw [upd_ne (ne_of_none e hD3)]
                    exact s10 _ _ (s9 _ _ e)
                · refine ⟨?_, s9.trans s10⟩
                  rw [fs, if_neg c2, List.append_nil]
                  exact s10 _ _ h9
              · rintro H9 ⟨h9, s9⟩
                rw [List.length_map, List.take_length] at h9
                obtain ⟨x, hx, hxL⟩ := pig (some26 nme') (nm ++ kept) (some26_nd _) (by rw [some26_len]; omega)
                have hin : x ∈ (some26 nme').filter (fun y => !decide (y ∈ nm ++ kept)) := List.mem_filter.mpr ⟨hx, by rw [decide_eq_false hxL]; rfl⟩
                cases hf : (some26 nme').filter (fun y => !decide (y ∈ nm ++ kept)) with
                | nil => rw [hf] at hin; cases hin
                | cons z r =>
                  have hz : z ∈ (some26 nme').filter (fun y => !decide (y ∈ nm ++ kept)) := by rw [hf]; exact List.mem_cons_self
                  obtain ⟨z1, z2⟩ := List.mem_filter.mp hz
                  rw [hf] at h9
                  refine ⟨D3, _, 0, .str z, rfl, rfl, SqL.of h9, atI_nat (j := 0) rfl, z, some26_ok nok' z1, ?_, rfl, su'.trans s9⟩
                  intro q
                  rw [decide_eq_true q] at z2
                  cases z2
            · refine ⟨nme', nok', ?_, rfl, sk.trans su⟩
              exact of_decide_eq_false (Bool.eq_false_iff.mpr c)
          · rintro σ' H7 ⟨fin, fok, fno, rfl, s7⟩
            have hp7 := s7 _ _ hp6
            refine ⟨_, rfl, .inl ⟨rfl, _, SqL.of hp7⟩, _, rfl, p, _, _, rfl, rfl, hp7, ?_, ?_⟩
            · rw [List.length_map]
              omega
            · refine ⟨nm ++ [fin], _, _, _, _, rfl, ?_, ?_, hN.snoc fok fno, ?_, ?_⟩
              · rw [upd_same, List.map_append]
                rfl
              · rw [List.length_append, hl]
                rfl
              · obtain ⟨x, y, z, e, r1, r2, r3, r4, r5⟩ := B6.same s7
                exact ⟨x, y, z, by rw [upd_ne (Ne.symm npb)]; exact e, r1, r2, r3, r4, by omega⟩
              · intro a o na e
                have hap : a ≠ p := ne_of_none e hp
                rw [upd_ne hap]
                exact s7 _ _ (s6 _ _ (U5 _ _ na (U1 _ _ na e)))
  · rintro σ H1 ⟨nm, y4, y5, y6, y7, rfl, hp1, hl, hN, B1, U1⟩
    exact ⟨_, rfl, q p nm H1 hp hp1 (by omega) hN (B1.less (by omega)) U1⟩
end
end SH

set_option Elab.async false
set_option linter.all false
set_option maxRecDepth 100000
namespace SH
open PySem L2
abbrev sTree : Stmt := topS 70
theorem scTree : FnScope ["_law_bag_here", "_law_names_here", "_law_deep", "_law_way", "_law_sign"] ["_law_bag_here", "_law_names_here", "_law_deep"] (defScope sTree) := ⟨rfl, rfl, rfl, by decide +kernel, rfl, by decide +kernel, by decide +kernel⟩
/-- an expression at most n deep, of these names -/
def Ex.of (nm : List Str) : Nat → Ex → Prop
  | 0, _ => False
  | _ + 1, .num i => 0 ≤ i ∧ i < 1000000 ^ 5
  | _ + 1, .nam s => s ∈ nm
  | n + 1, .op _ l r => Ex.of nm n l ∧ Ex.of nm n r
theorem Ex.of_up {nm : List Str} : ∀ {n m : Nat} {e : Ex}, n ≤ m → Ex.of nm n e → Ex.of nm m e
  | 0, _, _, _, h => h.elim
  | n + 1, m + 1, .num _, _, h => h
  | n + 1, m + 1, .nam _, _, h => h
  | n + 1, m + 1, .op _ _ _, hm, h => ⟨Ex.of_up (by omega) h.1, Ex.of_up (by omega) h.2⟩
theorem Ex.of_ok {nm : List Str} (hn : ∀ s ∈ nm, nmOk s) : ∀ {n : Nat} {e : Ex}, Ex.of nm n e → Ex.ok n e
  | 0, _, h => h
  | n + 1, .num i, h => log_ok h.1 h.2
  | n + 1, .nam s, h => by
    have q := (hn s h).2.1
    rw [codes_len] at q
    show s.length ≤ 2000
    omega
  | n + 1, .op _ _ _, h => ⟨Ex.of_ok hn h.1, Ex.of_ok hn h.2⟩
def sgs : List Sg := [.add, .sub, .mul, .lt, .eq]
def tc : Nat → Nat
  | 0 => 0
  | n + 1 => 2 * tc n + 12
def spTree (n : Nat) : Sp := fun vs H Q _ => ∃ (b a : Addr) (nm : List Str) (k : Nat), vs = [.ref b, .ref a, .int n] ∧ H a = some (.lst (nm.map V.str)) ∧ a ≠ b ∧ nm.length ≤ 1000 ∧ (∀ s ∈ nm, nmOk s) ∧ 1 ≤ n ∧ Bag H b (k + tc n) ∧
  ∀ (v : V) (e : Ex) (H' : Hp), TrIn H' e v → Ex.of nm n e → Bag H' b k → But b H H' → Q v H'
theorem sgs_at {i : Int} (h0 : 0 ≤ i) (h1 : i < 5) : ∃ g : Sg, atI (sgs.map fun g => V.str g.txt) i = some (.str g.txt) := by
  obtain ⟨v, e, m⟩ := menu (xs := sgs.map fun g => V.str g.txt) h0 (by show i < 5; exact h1)
  obtain ⟨g, _, rfl⟩ := List.mem_map.mp m
  exact ⟨g, e⟩
theorem strOk_nm {s : Str} (h : nmOk s) : PyData.strOk s = true := by
  unfold PyData.strOk
  rw [Array.all_eq_true']
  intro x hx
  have := (h.2.2 x (Array.mem_toList_iff.mpr hx)).2
  exact decide_eq_true (by omega)
theorem dp_strs {K : PySem.W.Frag} {H : Hp} : ∀ l : List Str, DpAll K H (l.map V.str) (l.map PyData.str)
  | [] => .nil
  | _ :: r => .cons (.str _) (dp_strs r)
theorem lay_strs : ∀ {l : List Str}, (∀ s ∈ l, nmOk s) → PyData.canLayAll0 (l.map PyData.str) = true ∧ PyData.depthAll (l.map PyData.str) = 0
  | [], _ => ⟨rfl, rfl⟩
  | a :: r, h => by
    obtain ⟨h1, h2⟩ := lay_strs (l := r) fun s hs => h s (List.mem_cons_of_mem _ hs)
    refine ⟨?_, ?_⟩
    · show (PyData.strOk a && PyData.canLayAll0 (r.map PyData.str)) = true
      rw [strOk_nm (h a List.mem_cons_self), h1] <;> rfl
    · show max 0 (PyData.depthAll (r.map PyData.str)) = 0
      rw [h2] <;> rfl
theorem shaped_strs {l : List Str} (h : ∀ s ∈ l, nmOk s) : SeqAt.shaped (.list (l.map PyData.str)) = true := by
  obtain ⟨h1, h2⟩ := lay_strs h
  show (PyData.canLayAll0 (l.map PyData.str) && decide (PyData.depthAll (l.map PyData.str) + 1 ≤ 64)) = true
  rw [h1, h2] <;> rfl
theorem trNum {H : Hp} {p : Addr} {i : Int} (h : H p = some (.tup [.str "number", .int i])) : TrIn H (.num i) (.ref p) := ⟨p, rfl, h⟩
theorem trNam {H : Hp} {p : Addr} {i : Str} (h : H p = some (.tup [.str "name", .str i])) : TrIn H (.nam i) (.ref p) := ⟨p, rfl, h⟩
def spTrees (N : Nat) : Sp := fun vs H Q E => ∃ n, n ≤ N ∧ spTree n vs H Q E
section
variable {P : Program} {w : World} {K : PySem.W.Frag} {mg : Str → Option Value} {base : Heap}
theorem ok_tree {n : Nat} {f t u : Addr} {fd td ud : FuncData} (F : Fun K "_law_tree" "_law_tree" sTree f fd) (TK : Fk P w K mg base 1 "_law_take" t td ["_law_bag_here", "_law_many"] spTake) (NB : Fk P w K mg base 2 "_law_number" u ud ["_law_bag_here"] spNumber)
    (TR : Fk P w K mg base (n + 2) "_law_tree" f fd ["_law_bag_here", "_law_names_here", "_law_deep"] (spTree n)) (T : Bi mg) : FnOk P w K mg base CX0 (n + 3) f fd ["_law_bag_here", "_law_names_here", "_law_deep"] (spTree (n + 1)) := by
  refine F.ok scTree (fun vs H Q E h => ?_) (fun cdv A outer s H vs Q E hr h => ?_)
  · obtain ⟨b, a, nm, k, rfl, _⟩ := h
    rfl
  obtain ⟨b, a, nm, k, rfl, ha, nab, hnl, hnm, _, hB, q⟩ := h
  refine ⟨_, (pss_cons (ps_set (i := 3) scTree.nd rfl (Or.inl rfl) (pe_call TK.G (hr.mono (by omega)) (by rfl) TK.m TK.k TK.b .nil pass0 (pa_cons (pv 0) (pa_cons pe_int pa_nil))))
    (pss_cons (ps_if (PW.pt (pw_or (pt_cmpR op_eq (pv 2) pe_int (nomark _)) (pw_or1 (pt_cmpR op_eq (pv 3) pe_int (nomark _)))))
      (C8.pss_cut (ps_if (PW.pt (pw_and (pt_cmpR (op_neD hr.units) (pv 1) (pe_lst pa_nil) (nomark _)) (pw_and1 (pt_cmpR op_gt (pe_call TK.G (hr.mono (by omega)) (by rfl) TK.m TK.k TK.b .nil pass0 (pa_cons (pv 0) (pa_cons pe_int pa_nil))) pe_int (nomark _)))))
      (pss_one (ps_ret (pe_tup (pa_cons pe_str (pa_cons (pe_ix ix_list (pv 1) (pe_call TK.G (hr.mono (by omega)) (by rfl) TK.m TK.k TK.b .nil pass0 (pa_cons (pv 0) (pa_cons (pe_callB call_len_seq (by rfl) T.len (by decide +kernel) (pa_cons (pv 1) pa_nil)) pa_nil))) (fun _ _ => rfl)) pa_nil)))))
      pss_nil)
    (pss_one (ps_ret (pe_tup (pa_cons pe_str (pa_cons (pe_call NB.G (hr.mono (by omega)) (by rfl) NB.m NB.k NB.b .nil pass0 (pa_cons (pv 0) pa_nil)) pa_nil))))))
      pss_nil)
    (pss_cons (ps_set (i := 4) scTree.nd rfl (Or.inl rfl) (pe_ix ix_list (pe_lst (pa_cons pe_str (pa_cons pe_str (pa_cons pe_str (pa_cons pe_str (pa_cons pe_str pa_nil)))))) (pe_call TK.G (hr.mono (by omega)) (by rfl) TK.m TK.k TK.b .nil pass0 (pa_cons (pv 0) (pa_cons pe_int pa_nil))) (fun _ _ => rfl)))
    (pss_one (ps_ret (pe_tup (pa_cons (pv 4) (pa_cons (pe_call TR.G hr (by rfl) TR.m TR.k TR.b .nil pass0 (pa_cons (pv 0) (pa_cons (pv 1) (pa_cons (pe_op op_sub (pv 2) pe_int) pa_nil)))) (pa_cons (pe_call TR.G hr (by rfl) TR.m TR.k TR.b .nil pass0 (pa_cons (pv 0) (pa_cons (pv 1) (pa_cons (pe_op op_sub (pv 2) pe_int) pa_nil)))) pa_nil))))))))), ?_⟩
  have hs : sizeLine = 16777216 := by decide
  have htc : tc (n + 1) = 2 * tc n + 12 := rfl
  refine ⟨_, rfl, b, 5, k + 2 * tc n + 11, rfl, by decide, by decide, hB, fun d1 H1 a1 a2 B1 U1 => ?_⟩
  have ha1 := U1 _ _ nab ha
  refine ⟨_, rfl, rfl, _, rfl, ?_⟩
  refine ite2 (fun c => ?leafA) (fun c => ⟨_, rfl, rfl, _, rfl, ite2 (fun c2 => ?leafB) (fun c2 => ?rec)⟩)
  case rec =>
    have hn1 : 1 ≤ n := by
      have c' : ¬ (V.int ((n + 1 : Nat) : Int) = V.int 1) := of_decide_eq_false (Bool.eq_false_iff.mpr c)
      rcases Nat.eq_zero_or_pos n with z | z
      · exact absurd (by rw [z]; rfl) c'
      · exact z
    refine ⟨(by show 5 ≤ sizeLine; decide), fun l hl => ?_⟩
    refine ⟨_, rfl, b, 5, k + 2 * tc n + 10, rfl, by decide, by decide, B1.same (same_new hl _), fun d2 H2 b1 b2 B2 U2 => ?_⟩
    obtain ⟨g, eg⟩ := sgs_at b1 b2
    have nlb : l ≠ b := fun e => by obtain ⟨ys, hy⟩ := B1.lst; rw [e, hy] at hl; cases hl
    have hl2 : H2 l = some (.lst (sgs.map fun g => V.str g.txt)) := U2 _ _ nlb upd_same
    refine ⟨l, _, _, _, rfl, rfl, SqL.of hl2, eg, ?_⟩
    have U12 : But b H H2 := U1.trans ((But.new hl _).trans U2)
    have ha2 := U12 _ _ nab ha
    have en : ((n + 1 : Nat) : Int) - 1 = (n : Int) := by omega
    refine ⟨_, rfl, _, rfl, _, rfl, _, rfl, _, _, rfl, rfl, b, a, nm, k + tc n, (by show [V.ref b, V.ref a, V.int (((n + 1 : Nat) : Int) - 1)] = _; rw [en]), ha2, nab, hnl, hnm, hn1, B2.less (by omega), fun v1 e1 H3 t1 o1 B3 U3 => ?_⟩
    have ha3 := U3 _ _ nab ha2
    refine ⟨_, rfl, _, rfl, _, rfl, _, _, rfl, rfl, b, a, nm, k, (by show [V.ref b, V.ref a, V.int (((n + 1 : Nat) : Int) - 1)] = _; rw [en]), ha3, nab, hnl, hnm, hn1, B3, fun v2 e2 H4 t2 o2 B4 U4 => ?_⟩
    refine ⟨(by show 3 ≤ sizeLine; decide), fun p hp => ?_⟩
    obtain ⟨ys, hys⟩ := B3.lst
    have t1' : TrIn H4 e1 v1 := t1.but hys U4
    refine q (.ref p) (.op g e1 e2) _ ⟨p, v1, v2, rfl, upd_same, t1'.same (same_new hp _), t2.same (same_new hp _)⟩ ⟨o1, o2⟩ (B4.same (same_new hp _)) (U12.trans (U3.trans (U4.trans (But.new hp _))))
  all_goals
    refine ⟨fun σ' H' => σ' = [some (.ref b), some (.ref a), some (.int ((n + 1 : Nat) : Int)), some (.int d1), none] ∧ Bag H' b (k + 8) ∧ But b H H', ?_, ?_⟩
    · refine ⟨_, rfl, Nat.zero_le _, fun l hl => ?_⟩
      have sl := same_new hl (.lst [])
      refine ⟨.list (nm.map PyData.str), .list [], .lst (SqL.of (sl _ _ ha1)) (dp_strs nm), .lst (SqL.of upd_same) .nil, shaped_strs hnm, rfl, _, rfl, ?_⟩
      cases hnm' : nm with
      | nil => exact ⟨rfl, (B1.same sl).less (by omega), U1.trans (But.of sl)⟩
      | cons z r =>
        have el : (nm.length : Int) = (z :: r).length := by rw [hnm']
        refine ⟨_, rfl, b, 3, k + 2 * tc n + 10, rfl, by decide, by decide, B1.same sl, fun d2 H2 b1 b2 B2 U2 => ?_⟩
        have U12 : But b H H2 := U1.trans ((But.of sl).trans U2)
        have ha2 : H2 a = some (.lst (nm.map V.str)) := U12 _ _ nab ha
        refine ⟨_, _, rfl, rfl, _, rfl, ?_⟩
        refine ite2 (fun c3 => ?_) (fun c3 => ?_)
        · refine ⟨_, rfl, _, rfl, _, rfl, a, _, rfl, .inl (SqL.of ha2), b, _, k + 2 * tc n + 9, rfl, ?_, ?_, B2, fun d3 H3 e1 e2 B3 U3 => ?_⟩
          · rw [List.length_map, el, List.length_cons]; omega
          · rw [List.length_map]; omega
          · rw [List.length_map] at e2
            obtain ⟨x, ex, hx⟩ := menuS (ns := nm) e1 e2
            refine ⟨a, _, _, _, rfl, rfl, SqL.of (U3 _ _ nab ha2), ex, (by show 2 ≤ sizeLine; decide), fun p hp => ?_⟩
            exact q (.ref p) (.nam x) _ (trNam upd_same) hx ((B3.same (same_new hp _)).less (by omega)) (U12.trans (U3.trans (But.new hp _)))
        · exact ⟨rfl, B2.less (by omega), U12⟩
    · rintro σ' H2 ⟨rfl, B2, U2⟩
      refine ⟨_, rfl, b, k, rfl, B2, fun i H3 i0 i1 B3 U3 => ?_⟩
      refine ⟨(by show 2 ≤ sizeLine; decide), fun p hp => ?_⟩
      exact q (.ref p) (.num i) _ (trNum upd_same) ⟨i0, i1⟩ (B3.same (same_new hp _)) (U2.trans (U3.trans (But.new hp _)))
theorem tree_none {f : Addr} {fd : FuncData} : FnOk P w K mg base CX0 2 f fd ["_law_bag_here", "_law_names_here", "_law_deep"] (spTree 0) := by
  have no : ∀ vs H Q E, ¬ spTree 0 vs H Q E := fun vs H Q E h => by
    obtain ⟨_, _, _, _, _, _, _, _, _, h1, _⟩ := h
    omega
  exact ⟨fun vs H Q E h => absurd h (no vs H Q E), fun A outer s H args us vs Q E _ _ _ _ h => absurd h (no vs H Q E)⟩
theorem trees {f t u : Addr} {fd td ud : FuncData} (F : Fun K "_law_tree" "_law_tree" sTree f fd) (m : mg "_law_tree" = some (.ref f)) (bd : Binds K fd ["_law_bag_here", "_law_names_here", "_law_deep"] []) (TK : Fk P w K mg base 1 "_law_take" t td ["_law_bag_here", "_law_many"] spTake)
    (NB : Fk P w K mg base 2 "_law_number" u ud ["_law_bag_here"] spNumber) (T : Bi mg) : ∀ n : Nat, FnOk P w K mg base CX0 (n + 2) f fd ["_law_bag_here", "_law_names_here", "_law_deep"] (spTree n)
  | 0 => tree_none
  | n + 1 => ok_tree F TK NB ⟨trees F m bd TK NB T n, m, F.kp, bd⟩ T
theorem trees_all {f t u : Addr} {fd td ud : FuncData} (F : Fun K "_law_tree" "_law_tree" sTree f fd) (m : mg "_law_tree" = some (.ref f)) (bd : Binds K fd ["_law_bag_here", "_law_names_here", "_law_deep"] []) (TK : Fk P w K mg base 1 "_law_take" t td ["_law_bag_here", "_law_many"] spTake)
    (NB : Fk P w K mg base 2 "_law_number" u ud ["_law_bag_here"] spNumber) (T : Bi mg) (N : Nat) : FnOk P w K mg base CX0 (N + 2) f fd ["_law_bag_here", "_law_names_here", "_law_deep"] (spTrees N) := by
  refine ⟨fun vs H Q E h => ?_, fun A outer s H args us vs Q E hr he hb hv h => ?_⟩
  · obtain ⟨n, hn, h⟩ := h
    exact (trees (P := P) (w := w) (base := base) F m bd TK NB T n).len vs H Q E h
  · obtain ⟨n, hn, h⟩ := h
    exact (trees (P := P) (w := w) (base := base) F m bd TK NB T n).run A outer s H args us vs Q E (hr.mono (by omega)) he hb hv h
end
end SH

set_option Elab.async false
set_option linter.all false
set_option maxRecDepth 100000
namespace SH
open PySem L2
/-! ### rows and works -/
def NmOk (s : Str) : Prop := nmOk s ∧ s ∉ kept
def Ex.fine : Nat → Ex → Prop
  | 0, _ => False
  | _ + 1, .num i => 0 ≤ i ∧ i < 1000000 ^ 5
  | _ + 1, .nam s => NmOk s
  | n + 1, .op _ l r => Ex.fine n l ∧ Ex.fine n r
theorem Ex.fine_up : ∀ {n m : Nat} {e : Ex}, n ≤ m → Ex.fine n e → Ex.fine m e
  | 0, _, _, _, h => h.elim
  | n + 1, m + 1, .num _, _, h => h
  | n + 1, m + 1, .nam _, _, h => h
  | n + 1, m + 1, .op _ _ _, hm, h => ⟨Ex.fine_up (by omega) h.1, Ex.fine_up (by omega) h.2⟩
theorem Ex.of_fine {nm : List Str} (hn : ∀ s ∈ nm, NmOk s) : ∀ {n : Nat} {e : Ex}, Ex.of nm n e → Ex.fine n e
  | 0, _, h => h
  | n + 1, .num i, h => h
  | n + 1, .nam s, h => hn s h
  | n + 1, .op _ _ _, h => ⟨Ex.of_fine hn h.1, Ex.of_fine hn h.2⟩
theorem Ex.fine_ok : ∀ {n : Nat} {e : Ex}, Ex.fine n e → Ex.ok n e
  | 0, _, h => h
  | n + 1, .num i, h => log_ok h.1 h.2
  | n + 1, .nam s, h => by
    have q := h.1.2.1
    rw [codes_len] at q
    show s.length ≤ 2000
    omega
  | n + 1, .op _ _ _, h => ⟨Ex.fine_ok h.1, Ex.fine_ok h.2⟩
inductive Rs where
  | nil
  | put (x : Str) (e : Ex) (t : Rs)
  | go (w : Bool) (x f : Str) (es : List Ex) (t : Rs)
  | wait (x y : Str) (e : Option Ex) (t : Rs)
  | iff (e : Ex) (a b t : Rs)
  | give (w : Bool) (e : Ex) (t : Rs)
def goW : Bool → Str
  | false => "go"
  | true => "call"
def giveW : Bool → Str
  | false => "give"
  | true => "fail"
def TrsIn (H : Hp) : List Ex → List V → Prop
  | [], vs => vs = []
  | e :: es, vs => ∃ v r, vs = v :: r ∧ TrIn H e v ∧ TrsIn H es r
def OptIn (H : Hp) : Option Ex → V → Prop
  | none, v => v = .non
  | some e, v => TrIn H e v
def RsIn (H : Hp) : Rs → List V → Prop
  | .nil, vs => vs = []
  | .put x e t, vs => ∃ a v r, vs = .ref a :: r ∧ H a = some (.tup [.str "put", .str x, v]) ∧ TrIn H e v ∧ RsIn H t r
  | .go w x f es t, vs => ∃ a p ws r, vs = .ref a :: r ∧ H a = some (.tup [.str (goW w), .str x, .str f, .ref p]) ∧ H p = some (.tup ws) ∧ TrsIn H es ws ∧ RsIn H t r
  | .wait x y oe t, vs => ∃ a v r, vs = .ref a :: r ∧ H a = some (.tup [.str "wait", .str x, .str y, v]) ∧ OptIn H oe v ∧ RsIn H t r
  | .iff e A B t, vs => ∃ a v p xs p' ys r, vs = .ref a :: r ∧ H a = some (.tup [.str "if", v, .ref p, .ref p']) ∧ TrIn H e v ∧ H p = some (.tup xs) ∧ RsIn H A xs ∧ H p' = some (.tup ys) ∧ RsIn H B ys ∧ RsIn H t r
  | .give w e t, vs => ∃ a v r, vs = .ref a :: r ∧ H a = some (.tup [.str (giveW w), v]) ∧ TrIn H e v ∧ RsIn H t r
def Rs.count : Rs → Nat
  | .nil => 0
  | .put _ _ t => 1 + t.count
  | .go _ _ _ _ t => 1 + t.count
  | .wait _ _ _ t => 1 + t.count
  | .iff _ a b t => 1 + a.count + b.count + t.count
  | .give _ _ t => 1 + t.count
def Rs.rc : Rs → Nat
  | .nil => 0
  | .iff _ a b _ => 1 + a.count + b.count
  | _ => 1
def Rs.tl : Rs → Rs
  | .nil => .nil
  | .put _ _ t => t
  | .go _ _ _ _ t => t
  | .wait _ _ _ t => t
  | .iff _ _ _ t => t
  | .give _ _ t => t
theorem Rs.count_eq (r : Rs) : r.count = r.rc + r.tl.count := by cases r <;> rfl
/-- the goes and calls, from the first on -/
def Rs.starts : Rs → List (Str × Nat)
  | .nil => []
  | .put _ _ t => t.starts
  | .go _ _ f es t => (f, es.length) :: t.starts
  | .wait _ _ _ t => t.starts
  | .iff _ a b t => a.starts ++ b.starts ++ t.starts
  | .give _ _ t => t.starts
def Rs.ok : Nat → Rs → Prop
  | _, .nil => True
  | n, .put x e t => NmOk x ∧ Ex.fine 6 e ∧ Rs.ok n t
  | n, .go _ x f es t => NmOk x ∧ NmOk f ∧ es.length ≤ 4 ∧ (∀ e ∈ es, Ex.fine 6 e) ∧ Rs.ok n t
  | n, .wait x y oe t => NmOk x ∧ NmOk y ∧ (∀ e, oe = some e → Ex.fine 6 e) ∧ Rs.ok n t
  | n, .iff e a b t => 1 ≤ n ∧ Ex.fine 6 e ∧ Rs.ok (n - 1) a ∧ Rs.ok (n - 1) b ∧ Rs.ok n t
  | n, .give _ e t => Ex.fine 6 e ∧ Rs.ok n t
theorem Rs.ok_tl {n : Nat} : ∀ {r : Rs}, Rs.ok n r → Rs.ok n r.tl
  | .nil, _ => trivial
  | .put _ _ _, h => h.2.2
  | .go _ _ _ _ _, h => h.2.2.2.2
  | .wait _ _ _ _, h => h.2.2.2
  | .iff _ _ _ _, h => h.2.2.2.2
  | .give _ _ _, h => h.2
theorem RsIn.tl {H : Hp} : ∀ {r : Rs} {v : V} {vs : List V}, RsIn H r (v :: vs) → RsIn H r.tl vs
  | .nil, _, _, h => by cases h
  | .put _ _ _, _, _, ⟨a, v, r, e, _, _, h⟩ => by cases e; exact h
  | .go _ _ _ _ _, _, _, ⟨a, p, ws, r, e, _, _, _, h⟩ => by cases e; exact h
  | .wait _ _ _ _, _, _, ⟨a, v, r, e, _, _, h⟩ => by cases e; exact h
  | .iff _ _ _ _, _, _, ⟨a, v, p, xs, p', ys, r, e, _, _, _, _, _, _, h⟩ => by cases e; exact h
  | .give _ _ _, _, _, ⟨a, v, r, e, _, _, h⟩ => by cases e; exact h
theorem Rs.rc_pos {H : Hp} : ∀ {r : Rs} {v : V} {vs : List V}, RsIn H r (v :: vs) → 1 ≤ r.rc
  | .nil, _, _, h => by cases h
  | .put _ _ _, _, _, _ => Nat.le_refl _
  | .go _ _ _ _ _, _, _, _ => Nat.le_refl _
  | .wait _ _ _ _, _, _, _ => Nat.le_refl _
  | .iff _ a b _, _, _, _ => by show 1 ≤ 1 + a.count + b.count; omega
  | .give _ _ _, _, _, _ => Nat.le_refl _
/-! ### a name of the module that holds a number -/
def Gi (mg : Str → Option Value) (x : Str) (i : Int) : Prop := ∃ t, mg x = some (.int i t)
theorem pe_gi {X : Cx} {x : Str} {i : Int} {pos : Pos} (h : Gi X.mg x i) (hg : Gl X x := by rfl) (hd : (x == ("__debug__" : Str)) = false := by decide) : PE X (.Name x pos) (tC (.int i)) := by
  obtain ⟨t, h⟩ := h
  exact pe_glob hg h ⟨t, rfl⟩ hd
def signsL : List Str := ["+", "-", "*", "<", "=="]
structure Gf (K : PySem.W.Frag) (mg : Str → Option Value) : Prop where
  words : ∃ a, mg "WORDS" = some (.ref a) ∧ ∀ H, SqT K H a (kept.map V.str)
  signs : ∃ a, mg "SIGNS" = some (.ref a) ∧ ∀ H, SqT K H a (signsL.map V.str)
  letters : ∃ t, mg "LETTERS" = some (.str letters t)
  works : Gi mg "MOST_WORKS" 12
  rows : Gi mg "MOST_ROWS" 40
  names : Gi mg "MOST_NAMES" 4
  exprs : Gi mg "MOST_EXPRESSIONS" 4
  ifs : Gi mg "MOST_IFS" 3
  lets : Gi mg "MOST_LETTERS" 8
  room : Gi mg "MOST_ROOM" 1000
  num : Gi mg "MOST_NUMBER" (1000000 ^ 5 - 1)
  norows : Gi mg "NO_ROWS" (-1)
abbrev sTupOf : Stmt := topS 45
abbrev sWhole : Stmt := topS 46
abbrev sWithin : Stmt := topS 47
abbrev sIsName : Stmt := topS 48
abbrev sLeaf : Stmt := topS 51
abbrev sIsEx : Stmt := topS 50
theorem scTupOf : FnScope ["thing", "many"] ["thing", "many"] (defScope sTupOf) := ⟨rfl, rfl, rfl, by decide +kernel, rfl, by decide +kernel, by decide +kernel⟩
theorem scWhole : FnScope ["thing"] ["thing"] (defScope sWhole) := ⟨rfl, rfl, rfl, by decide +kernel, rfl, by decide +kernel, by decide +kernel⟩
theorem scWithin : FnScope ["thing", "most"] ["thing", "most"] (defScope sWithin) := ⟨rfl, rfl, rfl, by decide +kernel, rfl, by decide +kernel, by decide +kernel⟩
theorem scIsName : FnScope ["thing", "letter"] ["thing"] (defScope sIsName) := ⟨rfl, rfl, rfl, by decide +kernel, rfl, by decide +kernel, by decide +kernel⟩
theorem scLeaf : FnScope ["pair"] ["pair"] (defScope sLeaf) := ⟨rfl, rfl, rfl, by decide +kernel, rfl, by decide +kernel, by decide +kernel⟩
theorem scIsEx : FnScope ["thing", "deepest"] ["thing", "deepest"] (defScope sIsEx) := ⟨rfl, rfl, rfl, by decide +kernel, rfl, by decide +kernel, by decide +kernel⟩
def spTupOf : Sp := fun vs H Q _ => ∃ (a : Addr) (xs : List V) (n : Int), vs = [.ref a, .int n] ∧ H a = some (.tup xs) ∧ Q (.bl (decide (V.int (xs.length : Nat) = V.int n))) H
def spWhole : Sp := fun vs H Q _ => ∃ i : Int, vs = [.int i] ∧ Q (.bl true) H
def spWithin : Sp := fun vs H Q _ => ∃ i m : Int, vs = [.int i, .int m] ∧ 0 ≤ i ∧ i ≤ m ∧ Q (.bl true) H
def spIsName : Sp := fun vs H Q _ => ∃ s : Str, vs = [.str s] ∧ NmOk s ∧ ∀ H', Same H H' → Q (.bl true) H'
def Ex.isLeaf : Ex → Bool
  | .op _ _ _ => false
  | _ => true
def spLeaf : Sp := fun vs H Q _ => ∃ (v : V) (e : Ex), vs = [v] ∧ TrIn H e v ∧ e.isLeaf = true ∧ Ex.fine 1 e ∧ ∀ H', Same H H' → Q (.bl true) H'
def spIsEx (n : Nat) : Sp := fun vs H Q _ => ∃ (v : V) (e : Ex), vs = [v, .int n] ∧ TrIn H e v ∧ Ex.fine n e ∧ ∀ H', Same H H' → Q (.bl true) H'
section
variable {P : Program} {w : World} {K : PySem.W.Frag} {mg : Str → Option Value} {base : Heap}
/-- a def with defaults, no error leaves it -/
theorem ok0 {x qual : Str} {st : Stmt} {dvs : List V} {kws : List (Str × V)} {f : Addr} {fd : FuncData} {N ps : List Str} {k : Nat} {sp : Sp} (F : FunD K x qual (defArgs st) (defBody st) (defScope st) dvs kws f fd) (S : FnScope N ps (defScope st)) (len : ∀ vs H Q E, sp vs H Q E → vs.length = ps.length)
    (hb : ∀ (cdv : Value) (A : Around) (outer : List Env) (s : Shared) (H : Hp) (vs : List V) (Q : VK) (E : XK), Room k (A.deeper (PyProof.Rows.envOfC qual (defScope st) s.heap.objs.size f cdv)) → sp vs H Q E →
      ∃ t, PSs (cxOf CX0 P w K mg base N qual (defScope st) f cdv A outer s H E).nox (defBody st) t ∧ t { nx := fun _ H' => Q .non H', rt := Q } (L2.start N vs) H) : FnOk P w K mg base CX0 (k + 1) f fd ps sp :=
  F.ok S len fun cdv A outer s H vs Q E hr h => by
    obtain ⟨t, h1, h2⟩ := hb cdv A outer s H vs Q E hr h
    exact ⟨t, h1.nox, h2⟩
theorem ok_tupOf {f : Addr} {fd : FuncData} (F : Fun K "is_tuple_of" "is_tuple_of" sTupOf f fd) (T : Bi mg) (mt : mg "tuple" = none) : FnOk P w K mg base CX0 1 f fd ["thing", "many"] spTupOf := by
  refine F.ok scTupOf (fun vs H Q E h => ?_) (fun cdv A outer s H vs Q E hr h => ?_)
  · obtain ⟨a, xs, n, rfl, _⟩ := h
    rfl
  obtain ⟨a, xs, n, rfl, ha, q⟩ := h
  refine ⟨_, (pss_one (ps_ret (pe_and (pe_callB call_isi (by rfl) T.isinstance (by decide +kernel) (pa_cons (pv 0) (pa_cons (pe_bltn (v := .ty "tuple") (by rfl) mt (by decide +kernel) rfl) pa_nil))) (pe_one (pe_cmpR op_eq (pe_callB call_len_seq (by rfl) T.len (by decide +kernel) (pa_cons (pv 0) pa_nil)) (pv 1) (nomark _)))))), ?_⟩
  refine ⟨_, rfl, _, _, _, _, true, rfl, .ty "tuple", .base (.tup ha), kit_ty (by decide +kernel), _, rfl, ?_⟩
  exact ⟨_, rfl, a, _, rfl, .inr (SqT.of ha), _, rfl, rfl, q⟩
theorem ok_whole {f : Addr} {fd : FuncData} (F : Fun K "is_whole" "is_whole" sWhole f fd) (T : Bi mg) (mt : mg "bool" = none) : FnOk P w K mg base CX0 1 f fd ["thing"] spWhole := by
  refine F.ok scWhole (fun vs H Q E h => ?_) (fun cdv A outer s H vs Q E hr h => ?_)
  · obtain ⟨i, rfl, _⟩ := h
    rfl
  obtain ⟨i, rfl, q⟩ := h
  refine ⟨_, (pss_one (ps_ret (pe_and (pe_callB call_isi (by rfl) T.isinstance (by decide +kernel) (pa_cons (pv 0) (pa_cons (pe_bltn (v := .ty "int") (by rfl) T.int (by decide +kernel) rfl) pa_nil))) (pe_one (pe_not (pe_callB call_isi (by rfl) T.isinstance (by decide +kernel) (pa_cons (pv 0) (pa_cons (pe_bltn (v := .ty "bool") (by rfl) mt (by decide +kernel) rfl) pa_nil)))))))), ?_⟩
  refine ⟨_, rfl, _, _, _, _, true, rfl, .ty "int", .base (.int i), kit_ty (by decide +kernel), _, rfl, ?_⟩
  exact ⟨_, rfl, _, _, _, _, false, rfl, .ty "bool", .base (.int i), kit_ty (by decide +kernel), _, rfl, q⟩
theorem ok_within {f g : Addr} {fd gd : FuncData} (F : Fun K "is_whole_within" "is_whole_within" sWithin f fd) (WH : Fk P w K mg base 1 "is_whole" g gd ["thing"] spWhole) : FnOk P w K mg base CX0 2 f fd ["thing", "most"] spWithin := by
  refine F.ok scWithin (fun vs H Q E h => ?_) (fun cdv A outer s H vs Q E hr h => ?_)
  · obtain ⟨i, m, rfl, _⟩ := h
    rfl
  obtain ⟨i, m, rfl, h0, h1, q⟩ := h
  refine ⟨_, (pss_one (ps_ret (pe_and (pe_call WH.G (hr.mono (by omega)) (by rfl) WH.m WH.k WH.b .nil pass0 (pa_cons (pv 0) pa_nil)) (pe_one (pe_chain op_le op_le pe_int (pv 0) (pv 1)))))), ?_⟩
  refine ⟨_, rfl, i, rfl, _, rfl, ?_⟩
  refine ⟨_, rfl, _, _, rfl, rfl, _, rfl, ?_⟩
  rw [decide_eq_true h0]
  refine ⟨_, rfl, _, _, rfl, rfl, ?_⟩
  show Q (.bl (decide (i ≤ m))) H
  rw [decide_eq_true h1]
  exact q
theorem ok_isName {f : Addr} {fd : FuncData} (F : Fun K "is_name" "is_name" sIsName f fd) (T : Bi mg) (G : Gf K mg) : FnOk P w K mg base CX0 1 f fd ["thing"] spIsName := by
  refine F.ok scIsName (fun vs H Q E h => ?_) (fun cdv A outer s H vs Q E hr h => ?_)
  · obtain ⟨i, rfl, _⟩ := h
    rfl
  obtain ⟨z, rfl, ⟨⟨n1, n2, n3⟩, nk⟩, q⟩ := h
  obtain ⟨aW, gW, sW⟩ := G.words
  obtain ⟨tL, gLt⟩ := G.letters
  refine ⟨_, (pss_cons (ps_if (PW.pt (pw_or (pt_not (pt_val (pe_callB call_isi (by rfl) T.isinstance (by decide +kernel) (pa_cons (pv 0) (pa_cons (pe_bltn (v := .ty "str") (by rfl) T.str (by decide +kernel) rfl) pa_nil))))) (pw_or1 (pt_not (pt_chain op_le op_le pe_int (pe_callB call_len (by rfl) T.len (by decide +kernel) (pa_cons (pv 0) pa_nil)) (pe_gi G.lets))))))
      (pss_one (ps_ret pe_bl))
      pss_nil)
    (pss_one (ps_ret (pe_and (pe_cmpR op_notIn_seq (pv 0) (pe_glob (v := .ref aW) rfl gW rfl) rfl) (pe_one (pe_callB (cr_all rfl) (by rfl) T.all (by decide +kernel) (pa_cons (pe_lc (own := [("letter", 1)]) (g := gName 1) (tt := tYes) (by rfl) scIsName.nd (pi_str (pv 0)) (blkOk_by (own := [("letter", 1)]) (N := ["thing", "letter"]) (sc := defScope sIsName) (by decide +kernel)) (fun _ _ _ _ _ => pg_name (i := 1) scIsName.nd rfl (Or.inl rfl)) (fun _ _ _ _ _ => pts_nil) (fun _ _ _ _ _ => (pe_cmpR op_in_sign (pv 1) (pe_glob (v := .str letters) rfl gLt ⟨_, rfl⟩) rfl))) pa_nil))))))), ?_⟩
  rw [codes_len] at n1 n2
  have hs : sizeLine = 16777216 := by decide
  refine ⟨_, rfl, _, _, _, _, true, rfl, .ty "str", .base (.str z), kit_ty (by decide +kernel), _, rfl, ?_⟩
  refine ⟨_, rfl, _, z.length, rfl, ⟨by omega, rfl⟩, _, _, rfl, rfl, _, rfl, ?_⟩
  rw [decide_eq_true (by omega : (1 : Int) ≤ (z.length : Nat))]
  refine ⟨_, _, rfl, rfl, _, rfl, ?_⟩
  rw [decide_eq_true (by omega : ((z.length : Nat) : Int) ≤ 8)]
  refine ⟨_, rfl, aW, _, rfl, .inr (sW _), rfl, flat_strs kept, _, rfl, ?_⟩
  rw [if_pos rfl, inV_str, decide_eq_false nk]
  refine ⟨_, rfl, z, rfl, ?_⟩
  intro D hD
  refine lc_it walk_str (fun j H' => H' D = some (.lst ((List.replicate j true).map V.bl)) ∧ Same H H') ⟨upd_same, same_new hD _⟩ (fun _ _ _ _ => trivial) ?_ ?_
  · rintro j x H1 H2 hj ⟨hD1, s1⟩ ⟨rfl, c, hc, rfl⟩
    refine ⟨rfl, ?_⟩
    refine ⟨_, rfl, c, letters, rfl, rfl, ?_⟩
    have hc' : c ∈ letters.cps.toList := by
      have hm : c ∈ codes z := by
        unfold codes
        exact List.mem_of_getElem? (by rw [Array.getElem?_toList]; exact hc)
      have hr' := n3 c hm
      have all : ∀ c : Fin 123, 97 ≤ c.val → c.val ∈ letters.cps.toList := by decide +kernel
      exact all ⟨c, by omega⟩ hr'.1
    refine ⟨_, hD1, ?_, ?_, ?_⟩
    · rw [List.length_map, List.length_replicate]
      have : j < z.length := hj
      omega
    · rw [upd_same, decide_eq_true hc', List.replicate_succ', List.map_append]
      rfl
    · intro x o zz
      rw [upd_ne (ne_of_none zz hD)]
      exact s1 _ _ zz
  · rintro H1 ⟨hD1, s1⟩
    refine ⟨D, _, rfl, SqL.of hD1, ?_⟩
    have : (List.replicate z.cps.size true).all id = true := by
      rw [List.all_eq_true]
      intro x hx
      exact (List.mem_replicate.mp hx).2
    rw [this]
    exact q H1 s1
theorem ok_leaf {f g h : Addr} {fd gd hd : FuncData} (F : Fun K "is_leaf" "is_leaf" sLeaf f fd) (WI : Fk P w K mg base 2 "is_whole_within" g gd ["thing", "most"] spWithin) (IN : Fk P w K mg base 1 "is_name" h hd ["thing"] spIsName) (G : Gf K mg) : FnOk P w K mg base CX0 3 f fd ["pair"] spLeaf := by
  refine F.ok scLeaf (fun vs H Q E h => ?_) (fun cdv A outer s H vs Q E hr h => ?_)
  · obtain ⟨v, e, rfl, _⟩ := h
    rfl
  obtain ⟨v, e, rfl, hT, hlf, hf, q⟩ := h
  refine ⟨_, (pss_cons (ps_if (pt_cmpR op_eq (pe_ix ix_tup (pv 0) pe_int (fun _ _ => rfl)) pe_str (nomark _))
      (pss_one (ps_ret (pe_call WI.G (hr.mono (by omega)) (by rfl) WI.m WI.k WI.b .nil pass0 (pa_cons (pe_ix ix_tup (pv 0) pe_int (fun _ _ => rfl)) (pa_cons (pe_gi G.num) pa_nil)))))
      pss_nil)
    (pss_one (ps_ret (pe_and (pe_cmpR op_eq (pe_ix ix_tup (pv 0) pe_int (fun _ _ => rfl)) pe_str (nomark _)) (pe_one (pe_call IN.G (hr.mono (by omega)) (by rfl) IN.m IN.k IN.b .nil pass0 (pa_cons (pe_ix ix_tup (pv 0) pe_int (fun _ _ => rfl)) pa_nil))))))), ?_⟩
  cases e with
  | num i =>
    obtain ⟨a, rfl, ha⟩ := hT
    refine ⟨_, rfl, a, _, 0, _, rfl, rfl, SqT.of ha, atI_nat rfl, rfl, _, rfl, ?_⟩
    rw [decide_eq_true rfl]
    refine iteT ⟨_, rfl, a, _, 1, _, rfl, rfl, SqT.of ha, atI_nat (j := 1) rfl, i, _, rfl, hf.1, ?_, q H (Same.refl H)⟩
    have := hf.2
    omega
  | nam z =>
    obtain ⟨a, rfl, ha⟩ := hT
    refine ⟨_, rfl, a, _, 0, _, rfl, rfl, SqT.of ha, atI_nat rfl, rfl, _, rfl, ?_⟩
    rw [decide_eq_false (by intro z; have := V.str.inj z; revert this; decide +kernel)]
    refine iteF ?_
    refine ⟨_, rfl, a, _, 0, _, rfl, rfl, SqT.of ha, atI_nat rfl, rfl, _, rfl, ?_⟩
    rw [decide_eq_true rfl]
    refine iteT ⟨_, rfl, a, _, 1, _, rfl, rfl, SqT.of ha, atI_nat (j := 1) rfl, z, rfl, hf, q⟩
  | op g l r => cases hlf
theorem ok_isEx {n : Nat} {f t l : Addr} {fd td ld : FuncData} (F : FunD K "is_expression" "is_expression" (defArgs sIsEx) (defBody sIsEx) (defScope sIsEx) [.int 6] [] f fd) (TO : Fk P w K mg base 1 "is_tuple_of" t td ["thing", "many"] spTupOf) (LF : Fk P w K mg base 3 "is_leaf" l ld ["pair"] spLeaf)
    (IE : Fk P w K mg base (n + 3) "is_expression" f fd ["thing", "deepest"] (spIsEx n)) (G : Gf K mg) : FnOk P w K mg base CX0 (n + 4) f fd ["thing", "deepest"] (spIsEx (n + 1)) := by
  refine ok0 F scIsEx (fun vs H Q E h => ?_) (fun cdv A outer s H vs Q E hr h => ?_)
  · obtain ⟨v, e, rfl, _⟩ := h
    rfl
  obtain ⟨v, e, rfl, hT, hf, q⟩ := h
  obtain ⟨aS, gS, sS⟩ := G.signs
  refine ⟨_, (pss_cons (ps_if (pt_val (pe_call TO.G (hr.mono (by omega)) (by rfl) TO.m TO.k TO.b .nil pass0 (pa_cons (pv 0) (pa_cons pe_int pa_nil))))
      (pss_one (ps_ret (pe_call LF.G (hr.mono (by omega)) (by rfl) LF.m LF.k LF.b .nil pass0 (pa_cons (pv 0) pa_nil))))
      pss_nil)
    (pss_cons (ps_if (PW.pt (pw_or (pt_not (pt_val (pe_call TO.G (hr.mono (by omega)) (by rfl) TO.m TO.k TO.b .nil pass0 (pa_cons (pv 0) (pa_cons pe_int pa_nil))))) (pw_or1 (pt_cmpR op_notIn_seq (pe_ix ix_tup (pv 0) pe_int (fun _ _ => rfl)) (pe_glob (v := .ref aS) rfl gS rfl) rfl))))
      (pss_one (ps_ret pe_bl))
      pss_nil)
    (pss_one (ps_ret (pe_and (pe_cmpR op_gt (pv 1) pe_int (nomark _)) (pe_and (pe_call IE.G hr (by rfl) IE.m IE.k IE.b .nil pass0 (pa_cons (pe_ix ix_tup (pv 0) pe_int (fun _ _ => rfl)) (pa_cons (pe_op op_sub (pv 1) pe_int) pa_nil))) (pe_one (pe_call IE.G hr (by rfl) IE.m IE.k IE.b .nil pass0 (pa_cons (pe_ix ix_tup (pv 0) pe_int (fun _ _ => rfl)) (pa_cons (pe_op op_sub (pv 1) pe_int) pa_nil)))))))))), ?_⟩
  cases e with
  | num i =>
    have hT' := hT
    obtain ⟨a, rfl, ha⟩ := hT
    refine ⟨_, rfl, a, _, 2, rfl, ha, _, rfl, ?_⟩
    refine ⟨_, rfl, _, .num i, rfl, hT', rfl, hf, q⟩
  | nam z =>
    have hT' := hT
    obtain ⟨a, rfl, ha⟩ := hT
    refine ⟨_, rfl, a, _, 2, rfl, ha, _, rfl, ?_⟩
    refine ⟨_, rfl, _, .nam z, rfl, hT', rfl, hf, q⟩
  | op g x y =>
    obtain ⟨a, vx, vy, rfl, ha, tx, ty⟩ := hT
    refine ⟨_, rfl, a, _, 2, rfl, ha, _, rfl, ?_⟩
    refine ⟨_, rfl, a, _, 3, rfl, ha, _, rfl, ?_⟩
    refine ⟨_, rfl, a, _, 0, _, rfl, rfl, SqT.of ha, atI_nat rfl, aS, _, rfl, .inr (sS _), rfl, flat_strs signsL, _, rfl, ?_⟩
    have e1 : inV (.str g.txt) (signsL.map V.str) = true := by
      rw [inV_str]
      cases g <;> decide +kernel
    rw [if_pos rfl, e1]
    have hn : 1 ≤ n := by
      cases n with
      | zero => exact hf.1.elim
      | succ m => exact Nat.succ_le_succ (Nat.zero_le _)
    have en : ((n + 1 : Nat) : Int) - 1 = (n : Int) := by omega
    refine ⟨_, rfl, _, _, rfl, rfl, _, rfl, ?_⟩
    rw [decide_eq_true (by omega : (1 : Int) < ((n + 1 : Nat) : Int))]
    refine ⟨_, rfl, a, _, 1, _, rfl, rfl, SqT.of ha, atI_nat (j := 1) rfl, _, rfl, _, _, rfl, rfl, vx, x, (by show [vx, V.int (((n + 1 : Nat) : Int) - 1)] = _; rw [en]), tx, hf.1, fun H1 s1 => ?_⟩
    refine ⟨_, rfl, ?_⟩
    refine ⟨_, rfl, a, _, 2, _, rfl, rfl, SqT.of (s1 _ _ ha), atI_nat (j := 2) rfl, _, rfl, _, _, rfl, rfl, vy, y, (by show [vy, V.int (((n + 1 : Nat) : Int) - 1)] = _; rw [en]), ty.same s1, hf.2, fun H2 s2 => q H2 (s1.trans s2)⟩
theorem isEx_none {f : Addr} {fd : FuncData} : FnOk P w K mg base CX0 3 f fd ["thing", "deepest"] (spIsEx 0) := by
  have no : ∀ vs H Q E, ¬ spIsEx 0 vs H Q E := fun vs H Q E h => by
    obtain ⟨_, _, _, _, h1, _⟩ := h
    exact h1
  exact ⟨fun vs H Q E h => absurd h (no vs H Q E), fun A outer s H args us vs Q E _ _ _ _ h => absurd h (no vs H Q E)⟩
theorem isExs {f t l : Addr} {fd td ld : FuncData} (F : FunD K "is_expression" "is_expression" (defArgs sIsEx) (defBody sIsEx) (defScope sIsEx) [.int 6] [] f fd) (m : mg "is_expression" = some (.ref f)) (bd : Binds K fd ["thing", "deepest"] []) (TO : Fk P w K mg base 1 "is_tuple_of" t td ["thing", "many"] spTupOf) (LF : Fk P w K mg base 3 "is_leaf" l ld ["pair"] spLeaf) (G : Gf K mg) :
    ∀ n : Nat, FnOk P w K mg base CX0 (n + 3) f fd ["thing", "deepest"] (spIsEx n)
  | 0 => isEx_none
  | n + 1 => ok_isEx F TO LF ⟨isExs F m bd TO LF G n, m, F.kp, bd⟩ G
end
end SH

set_option Elab.async false
set_option linter.all false
set_option maxRecDepth 100000
namespace SH
open PySem L2
abbrev sAreNames : Stmt := topS 49
abbrev sAreEx : Stmt := topS 52
abbrev sIfHead : Stmt := topS 56
abbrev sPlain : Stmt := topS 57
abbrev sRowL : Stmt := topS 54
abbrev sBranL : Stmt := topS 55
abbrev sRowsL : Stmt := topS 53
abbrev sIsWork : Stmt := topS 44
abbrev sChkWork : Stmt := topS 43
theorem scAreNames : FnScope ["thing", "part"] ["thing"] (defScope sAreNames) := ⟨rfl, rfl, rfl, by decide +kernel, rfl, by decide +kernel, by decide +kernel⟩
theorem scAreEx : FnScope ["thing", "part"] ["thing"] (defScope sAreEx) := ⟨rfl, rfl, rfl, by decide +kernel, rfl, by decide +kernel, by decide +kernel⟩
theorem scIfHead : FnScope ["thing"] ["thing"] (defScope sIfHead) := ⟨rfl, rfl, rfl, by decide +kernel, rfl, by decide +kernel, by decide +kernel⟩
theorem scPlain : FnScope ["thing"] ["thing"] (defScope sPlain) := ⟨rfl, rfl, rfl, by decide +kernel, rfl, by decide +kernel, by decide +kernel⟩
theorem scRowL : FnScope ["thing", "ifs", "left"] ["thing", "ifs", "left"] (defScope sRowL) := ⟨rfl, rfl, rfl, by decide +kernel, rfl, by decide +kernel, by decide +kernel⟩
theorem scBranL : FnScope ["row", "ifs", "left"] ["row", "ifs", "left"] (defScope sBranL) := ⟨rfl, rfl, rfl, by decide +kernel, rfl, by decide +kernel, by decide +kernel⟩
theorem scRowsL : FnScope ["thing", "ifs", "left", "row"] ["thing", "ifs", "left"] (defScope sRowsL) := ⟨rfl, rfl, rfl, by decide +kernel, rfl, by decide +kernel, by decide +kernel⟩
theorem scIsWork : FnScope ["thing", "name", "names", "room", "rows"] ["thing"] (defScope sIsWork) := ⟨rfl, rfl, rfl, by decide +kernel, rfl, by decide +kernel, by decide +kernel⟩
theorem scChkWork : FnScope ["thing"] ["thing"] (defScope sChkWork) := ⟨rfl, rfl, rfl, by decide +kernel, rfl, by decide +kernel, by decide +kernel⟩
def spAreNames : Sp := fun vs H Q _ => ∃ (a : Addr) (nm : List Str), vs = [.ref a] ∧ H a = some (.tup (nm.map V.str)) ∧ nm.length ≤ 4 ∧ (∀ s ∈ nm, NmOk s) ∧ nm.Nodup ∧ ∀ H', Same H H' → Q (.bl true) H'
def spAreEx : Sp := fun vs H Q _ => ∃ (a : Addr) (es : List Ex) (ws : List V), vs = [.ref a] ∧ H a = some (.tup ws) ∧ TrsIn H es ws ∧ es.length ≤ 4 ∧ (∀ e ∈ es, Ex.fine 6 e) ∧ ∀ H', Same H H' → Q (.bl true) H'
def Rs.isIf : Rs → Bool
  | .iff _ _ _ _ => true
  | _ => false
def spIfHead (n : Nat) : Sp := fun vs H Q _ => ∃ (v : V) (rs : Rs) (r : List V), vs = [v] ∧ RsIn H rs (v :: r) ∧ Rs.ok n rs ∧ ∀ H', Same H H' → Q (.bl rs.isIf) H'
def spPlain (n : Nat) : Sp := fun vs H Q _ => ∃ (v : V) (rs : Rs) (r : List V), vs = [v] ∧ RsIn H rs (v :: r) ∧ Rs.ok n rs ∧ rs.isIf = false ∧ ∀ H', Same H H' → Q (.bl true) H'
def spRowL (n : Nat) : Sp := fun vs H Q _ => ∃ (v : V) (rs : Rs) (r : List V) (l : Nat), vs = [v, .int n, .int l] ∧ RsIn H rs (v :: r) ∧ Rs.ok n rs ∧ rs.rc ≤ l ∧ ∀ H', Same H H' → Q (.int ((l - rs.rc : Nat) : Int)) H'
def spRowsL (n : Nat) : Sp := fun vs H Q _ => ∃ (p : Addr) (rs : Rs) (xs : List V) (l : Nat), vs = [.ref p, .int n, .int l] ∧ H p = some (.tup xs) ∧ RsIn H rs xs ∧ Rs.ok n rs ∧ rs.count ≤ l ∧ ∀ H', Same H H' → Q (.int ((l - rs.count : Nat) : Int)) H'
def spBranL (n : Nat) : Sp := fun vs H Q _ => ∃ (a p p' : Addr) (v : V) (A B : Rs) (xs ys : List V) (l : Nat), vs = [.ref a, .int n, .int l] ∧ H a = some (.tup [.str "if", v, .ref p, .ref p']) ∧ H p = some (.tup xs) ∧ RsIn H A xs ∧ H p' = some (.tup ys) ∧ RsIn H B ys ∧ Rs.ok n A ∧ Rs.ok n B ∧ A.count + B.count ≤ l ∧
  ∀ H', Same H H' → Q (.int ((l - (A.count + B.count) : Nat) : Int)) H'
theorem TrsIn.same {H H' : Hp} (h : Same H H') : ∀ {es : List Ex} {vs : List V}, TrsIn H es vs → TrsIn H' es vs
  | [], _, q => q
  | _ :: _, _, ⟨v, r, e, t, q⟩ => ⟨v, r, e, t.same h, TrsIn.same h q⟩
theorem OptIn.same {H H' : Hp} (h : Same H H') : ∀ {e : Option Ex} {v : V}, OptIn H e v → OptIn H' e v
  | none, _, q => q
  | some _, _, q => TrIn.same h q
theorem RsIn.same {H H' : Hp} (h : Same H H') : ∀ {r : Rs} {vs : List V}, RsIn H r vs → RsIn H' r vs
  | .nil, _, q => q
  | .put _ _ _, _, ⟨a, v, r, e, k, t, q⟩ => ⟨a, v, r, e, h _ _ k, t.same h, RsIn.same h q⟩
  | .go _ _ _ _ _, _, ⟨a, p, ws, r, e, k, k2, t, q⟩ => ⟨a, p, ws, r, e, h _ _ k, h _ _ k2, t.same h, RsIn.same h q⟩
  | .wait _ _ _ _, _, ⟨a, v, r, e, k, t, q⟩ => ⟨a, v, r, e, h _ _ k, t.same h, RsIn.same h q⟩
  | .iff _ _ _ _, _, ⟨a, v, p, xs, p', ys, r, e, k, t, k1, q1, k2, q2, q⟩ => ⟨a, v, p, xs, p', ys, r, e, h _ _ k, t.same h, h _ _ k1, RsIn.same h q1, h _ _ k2, RsIn.same h q2, RsIn.same h q⟩
  | .give _ _ _, _, ⟨a, v, r, e, k, t, q⟩ => ⟨a, v, r, e, h _ _ k, t.same h, RsIn.same h q⟩
theorem TrIn.updl {H : Hp} {b : Addr} {ys zs : List V} (hb : H b = some (.lst ys)) {e : Ex} {v : V} (h : TrIn H e v) : TrIn (upd H b (.lst zs)) e v :=
  h.but hb fun a o na q => by rw [upd_ne na]; exact q
theorem TrsIn.updl {H : Hp} {b : Addr} {ys zs : List V} (hb : H b = some (.lst ys)) : ∀ {es : List Ex} {vs : List V}, TrsIn H es vs → TrsIn (upd H b (.lst zs)) es vs
  | [], _, q => q
  | _ :: _, _, ⟨v, r, e, t, q⟩ => ⟨v, r, e, t.updl hb, TrsIn.updl hb q⟩
theorem OptIn.updl {H : Hp} {b : Addr} {ys zs : List V} (hb : H b = some (.lst ys)) : ∀ {e : Option Ex} {v : V}, OptIn H e v → OptIn (upd H b (.lst zs)) e v
  | none, _, q => q
  | some _, _, q => TrIn.updl hb q
theorem tup_updl {H : Hp} {a b : Addr} {xs ys zs : List V} (hb : H b = some (.lst ys)) (h : H a = some (.tup xs)) : (upd H b (.lst zs)) a = some (.tup xs) := by
  rw [upd_ne (lst_ne h hb)]
  exact h
theorem RsIn.upd_lst {H : Hp} {b : Addr} {ys zs : List V} (hb : H b = some (.lst ys)) : ∀ {r : Rs} {vs : List V}, RsIn H r vs → RsIn (upd H b (.lst zs)) r vs
  | .nil, _, q => q
  | .put _ _ _, _, ⟨a, v, r, e, k, t, q⟩ => ⟨a, v, r, e, tup_updl hb k, t.updl hb, RsIn.upd_lst hb q⟩
  | .go _ _ _ _ _, _, ⟨a, p, ws, r, e, k, k2, t, q⟩ => ⟨a, p, ws, r, e, tup_updl hb k, tup_updl hb k2, t.updl hb, RsIn.upd_lst hb q⟩
  | .wait _ _ _ _, _, ⟨a, v, r, e, k, t, q⟩ => ⟨a, v, r, e, tup_updl hb k, t.updl hb, RsIn.upd_lst hb q⟩
  | .iff _ _ _ _, _, ⟨a, v, p, xs, p', ys', r, e, k, t, k1, q1, k2, q2, q⟩ => ⟨a, v, p, xs, p', ys', r, e, tup_updl hb k, t.updl hb, tup_updl hb k1, RsIn.upd_lst hb q1, tup_updl hb k2, RsIn.upd_lst hb q2, RsIn.upd_lst hb q⟩
  | .give _ _ _, _, ⟨a, v, r, e, k, t, q⟩ => ⟨a, v, r, e, tup_updl hb k, t.updl hb, RsIn.upd_lst hb q⟩
theorem TrsIn.snoc {H : Hp} {e : Ex} {v : V} (h : TrIn H e v) : ∀ {es : List Ex} {vs : List V}, TrsIn H es vs → TrsIn H (es ++ [e]) (vs ++ [v])
  | [], _, q => by cases q; exact ⟨v, [], rfl, h, rfl⟩
  | _ :: _, _, ⟨v', r, e', t, q⟩ => by cases e'; exact ⟨v', _, rfl, t, TrsIn.snoc h q⟩
theorem TrsIn.len {H : Hp} : ∀ {es : List Ex} {vs : List V}, TrsIn H es vs → vs.length = es.length
  | [], _, q => by cases q; rfl
  | _ :: _, _, ⟨v, r, e, t, q⟩ => by cases e; exact congrArg Nat.succ (TrsIn.len q)
theorem TrsIn.get_ {H : Hp} : ∀ {es : List Ex} {vs : List V} {i : Nat} {v : V}, TrsIn H es vs → vs[i]? = some v → ∃ e, es[i]? = some e ∧ TrIn H e v
  | [], _, i, v, q, h => by cases q; simp at h
  | _ :: _, _, 0, v, ⟨v', r, e, t, q⟩, h => by cases e; cases h; exact ⟨_, rfl, t⟩
  | _ :: _, _, i + 1, v, ⟨v', r, e, t, q⟩, h => by cases e; have z := TrsIn.get_ (i := i) q h; exact z
structure Wk where
  name : Str
  names : List Str
  room : Int
  rows : Rs
def WkIn (H : Hp) (W : Wk) (v : V) : Prop := ∃ (a pn pr : Addr) (xs : List V), v = .ref a ∧ H a = some (.tup [.str "work", .str W.name, .ref pn, .int W.room, .ref pr]) ∧ H pn = some (.tup (W.names.map V.str)) ∧ H pr = some (.tup xs) ∧ RsIn H W.rows xs
structure Wk.ok (W : Wk) : Prop where
  name : NmOk W.name
  few : W.names.length ≤ 4
  names : ∀ s ∈ W.names, NmOk s
  nd : W.names.Nodup
  room0 : 0 ≤ W.room
  room1 : W.room ≤ 1000
  rows : Rs.ok 3 W.rows
  count : W.rows.count ≤ 40
theorem WkIn.same {H H' : Hp} {W : Wk} {v : V} (h : Same H H') : WkIn H W v → WkIn H' W v
  | ⟨a, pn, pr, xs, e, k1, k2, k3, q⟩ => ⟨a, pn, pr, xs, e, h _ _ k1, h _ _ k2, h _ _ k3, q.same h⟩
def spIsWork : Sp := fun vs H Q _ => ∃ (v : V) (W : Wk), vs = [v] ∧ WkIn H W v ∧ W.ok ∧ ∀ H', Same H H' → Q (.bl true) H'
def spChkWork : Sp := fun vs H Q _ => ∃ (v : V) (W : Wk), vs = [v] ∧ WkIn H W v ∧ W.ok ∧ ∀ H', Same H H' → Q .non H'
theorem all_true (n : Nat) : (List.replicate n true).all id = true := by
  rw [List.all_eq_true]
  intro x hx
  exact (List.mem_replicate.mp hx).2
section
variable {P : Program} {w : World} {K : PySem.W.Frag} {mg : Str → Option Value} {base : Heap}
theorem ok_areNames {f i : Addr} {fd idd : FuncData} (F : Fun K "are_names" "are_names" sAreNames f fd) (IN : Fk P w K mg base 1 "is_name" i idd ["thing"] spIsName) (T : Bi mg) (G : Gf K mg) (mt : mg "tuple" = none) (msx : mg "set" = none) : FnOk P w K mg base CX0 2 f fd ["thing"] spAreNames := by
  refine F.ok scAreNames (fun vs H Q E h => ?_) (fun cdv A outer s H vs Q E hr h => ?_)
  · obtain ⟨a, nm, rfl, _⟩ := h
    rfl
  obtain ⟨a, nm, rfl, ha, h4, hok, hnd, q⟩ := h
  refine ⟨_, (pss_cons (ps_if (PW.pt (pw_or (pt_not (pt_val (pe_callB call_isi (by rfl) T.isinstance (by decide +kernel) (pa_cons (pv 0) (pa_cons (pe_bltn (v := .ty "tuple") (by rfl) mt (by decide +kernel) rfl) pa_nil))))) (pw_or1 (pt_cmpR op_gt (pe_callB call_len_seq (by rfl) T.len (by decide +kernel) (pa_cons (pv 0) pa_nil)) (pe_gi G.names) (nomark _)))))
      (pss_one (ps_ret pe_bl))
      pss_nil)
    (pss_one (ps_ret (pe_and (pe_callB (cr_all rfl) (by rfl) T.all (by decide +kernel) (pa_cons (pe_lc (own := [("part", 1)]) (g := gName 1) (tt := tYes) (by rfl) scAreNames.nd (pi_tup (pv 0)) (blkOk_by (own := [("part", 1)]) (N := ["thing", "part"]) (sc := defScope sAreNames) (by decide +kernel)) (fun _ _ _ _ _ => pg_name (i := 1) scAreNames.nd rfl (Or.inl rfl)) (fun _ _ _ _ _ => pts_nil) (fun _ _ _ _ _ => (pe_call IN.G (hr.mono (by omega)) (by rfl) IN.m IN.k IN.b .nil pass0 (pa_cons (pv 1) pa_nil)))) pa_nil)) (pe_one (pe_cmpR op_eq (pe_lenTxt (by rfl) T.len (by rfl) msx (pv 0)) (pe_callB call_len_seq (by rfl) T.len (by decide +kernel) (pa_cons (pv 0) pa_nil)) (nomark _))))))), ?_⟩
  have hs : sizeLine = 16777216 := by decide
  have hl : (nm.map V.str).length = nm.length := List.length_map _
  refine ⟨_, rfl, _, _, _, _, true, rfl, .ty "tuple", .base (.tup ha), kit_ty (by decide +kernel), _, rfl, ?_⟩
  refine ⟨_, rfl, a, _, rfl, .inr (SqT.of ha), _, _, rfl, rfl, _, rfl, ?_⟩
  rw [hl, decide_eq_false (by omega : ¬ (4 : Int) < (nm.length : Nat))]
  refine ⟨_, rfl, a, rfl, ⟨_, SqT.of ha⟩, ?_⟩
  intro D hD
  refine lc_tup (K := K) (a := a) (xs := nm.map V.str) (fun j H' => H' D = some (.lst ((List.replicate j true).map V.bl)) ∧ Same H H') ⟨upd_same, same_new hD _⟩ (fun j H' _ h => SqT.of (h.2 _ _ ha)) ?_ ?_
  · rintro j x H2 hx ⟨hD2, s2⟩
    obtain ⟨z, hz, rfl⟩ : ∃ z, nm[j]? = some z ∧ V.str z = x := by
      rw [List.getElem?_map] at hx
      obtain ⟨x', h1, h2⟩ := Option.map_eq_some_iff.mp hx
      exact ⟨x', h1, h2⟩
    have hj : j < nm.length := by
      obtain ⟨h1, _⟩ := List.getElem?_eq_some_iff.mp hz
      exact h1
    refine ⟨rfl, ?_⟩
    refine ⟨_, rfl, z, rfl, hok z (List.mem_of_getElem? hz), fun H3 s3 => ?_⟩
    refine ⟨_, s3 _ _ hD2, by rw [List.length_map, List.length_replicate]; omega, ?_, ?_⟩
    · rw [upd_same, List.replicate_succ', List.map_append]
      rfl
    · intro x o zz
      rw [upd_ne (ne_of_none zz hD)]
      exact s3 _ _ (s2 _ _ zz)
  · rintro H2 ⟨hD2, s2⟩
    refine ⟨D, _, rfl, SqL.of hD2, ?_⟩
    rw [all_true]
    refine ⟨_, rfl, ?_⟩
    refine ⟨_, rfl, a, nm, rfl, SqT.of (s2 _ _ ha), by omega, ?_⟩
    refine ⟨_, rfl, a, _, rfl, .inr (SqT.of (s2 _ _ ha)), rfl, ?_⟩
    rw [SHSet.dd_nd hnd, hl, decide_eq_true rfl]
    exact q H2 s2
theorem ok_areEx {f i : Addr} {fd idd : FuncData} {ds : List Value} (F : Fun K "are_expressions" "are_expressions" sAreEx f fd) (IE : Fk P w K mg base 9 "is_expression" i idd ["thing", "deepest"] (spIsEx 6)) (vE : Vals [V.int 6] ds) (bE : Binds K idd ["thing", "deepest"] ds) (T : Bi mg) (G : Gf K mg) (mt : mg "tuple" = none) :
    FnOk P w K mg base CX0 10 f fd ["thing"] spAreEx := by
  refine F.ok scAreEx (fun vs H Q E h => ?_) (fun cdv A outer s H vs Q E hr h => ?_)
  · obtain ⟨a, es, ws, rfl, _⟩ := h
    rfl
  obtain ⟨a, es, ws, rfl, ha, hT, h4, hok, q⟩ := h
  refine ⟨_, (pss_cons (ps_if (PW.pt (pw_or (pt_not (pt_val (pe_callB call_isi (by rfl) T.isinstance (by decide +kernel) (pa_cons (pv 0) (pa_cons (pe_bltn (v := .ty "tuple") (by rfl) mt (by decide +kernel) rfl) pa_nil))))) (pw_or1 (pt_cmpR op_gt (pe_callB call_len_seq (by rfl) T.len (by decide +kernel) (pa_cons (pv 0) pa_nil)) (pe_gi G.exprs) (nomark _)))))
      (pss_one (ps_ret pe_bl))
      pss_nil)
    (pss_one (ps_ret (pe_callB (cr_all rfl) (by rfl) T.all (by decide +kernel) (pa_cons (pe_lc (own := [("part", 1)]) (g := gName 1) (tt := tYes) (by rfl) scAreEx.nd (pi_tup (pv 0)) (blkOk_by (own := [("part", 1)]) (N := ["thing", "part"]) (sc := defScope sAreEx) (by decide +kernel)) (fun _ _ _ _ _ => pg_name (i := 1) scAreEx.nd rfl (Or.inl rfl)) (fun _ _ _ _ _ => pts_nil) (fun _ _ _ _ _ => (pe_call IE.G (hr.mono (by omega)) (by rfl) IE.m IE.k bE vE pass0 (pa_cons (pv 1) pa_nil)))) pa_nil))))), ?_⟩
  have hs : sizeLine = 16777216 := by decide
  have hl := hT.len
  refine ⟨_, rfl, _, _, _, _, true, rfl, .ty "tuple", .base (.tup ha), kit_ty (by decide +kernel), _, rfl, ?_⟩
  refine ⟨_, rfl, a, _, rfl, .inr (SqT.of ha), _, _, rfl, rfl, _, rfl, ?_⟩
  rw [hl, decide_eq_false (by omega : ¬ (4 : Int) < (es.length : Nat))]
  refine ⟨_, rfl, a, rfl, ⟨_, SqT.of ha⟩, ?_⟩
  intro D hD
  refine lc_tup (K := K) (a := a) (xs := ws) (fun j H' => H' D = some (.lst ((List.replicate j true).map V.bl)) ∧ Same H H') ⟨upd_same, same_new hD _⟩ (fun j H' _ h => SqT.of (h.2 _ _ ha)) ?_ ?_
  · rintro j x H2 hx ⟨hD2, s2⟩
    obtain ⟨e, he, te⟩ := hT.get_ hx
    have hj : j < es.length := by
      obtain ⟨h1, _⟩ := List.getElem?_eq_some_iff.mp he
      exact h1
    refine ⟨rfl, ?_⟩
    refine ⟨_, rfl, x, e, rfl, te.same s2, hok e (List.mem_of_getElem? he), fun H3 s3 => ?_⟩
    refine ⟨_, s3 _ _ hD2, by rw [List.length_map, List.length_replicate]; omega, ?_, ?_⟩
    · rw [upd_same, List.replicate_succ', List.map_append]
      rfl
    · intro x o zz
      rw [upd_ne (ne_of_none zz hD)]
      exact s3 _ _ (s2 _ _ zz)
  · rintro H2 ⟨hD2, s2⟩
    refine ⟨D, _, rfl, SqL.of hD2, ?_⟩
    rw [all_true]
    exact q H2 s2
theorem ok_ifHead {n : Nat} {f i t : Addr} {fd idd td : FuncData} {ds : List Value} (F : Fun K "is_if_head" "is_if_head" sIfHead f fd) (TO : Fk P w K mg base 1 "is_tuple_of" t td ["thing", "many"] spTupOf) (IE : Fk P w K mg base 9 "is_expression" i idd ["thing", "deepest"] (spIsEx 6)) (vE : Vals [V.int 6] ds) (bE : Binds K idd ["thing", "deepest"] ds) :
    FnOk P w K mg base CX0 10 f fd ["thing"] (spIfHead n) := by
  refine F.ok scIfHead (fun vs H Q E h => ?_) (fun cdv A outer s H vs Q E hr h => ?_)
  · obtain ⟨v, rs, r, rfl, _⟩ := h
    rfl
  obtain ⟨v, rs, r, rfl, hR, hok, q⟩ := h
  refine ⟨_, (pss_one (ps_ret (pe_and (pe_call TO.G (hr.mono (by omega)) (by rfl) TO.m TO.k TO.b .nil pass0 (pa_cons (pv 0) (pa_cons pe_int pa_nil))) (pe_and (pe_cmpR op_eq (pe_ix ix_tup (pv 0) pe_int (fun _ _ => rfl)) pe_str (nomark _)) (pe_one (pe_call IE.G (hr.mono (by omega)) (by rfl) IE.m IE.k bE vE pass0 (pa_cons (pe_ix ix_tup (pv 0) pe_int (fun _ _ => rfl)) pa_nil))))))), ?_⟩
  have q0 := q H (Same.refl H)
  cases rs with
  | nil => cases hR
  | put x e t =>
    obtain ⟨a, u, r', e1, ha, _⟩ := hR
    cases e1
    exact ⟨_, rfl, a, _, 4, rfl, ha, _, rfl, q0⟩
  | go b x g es t =>
    obtain ⟨a, p, ws, r', e1, ha, _⟩ := hR
    cases e1
    refine ⟨_, rfl, a, _, 4, rfl, ha, _, rfl, ?_⟩
    refine ⟨_, rfl, a, _, 0, _, rfl, rfl, SqT.of ha, atI_nat rfl, rfl, _, rfl, ?_⟩
    rw [decide_eq_false (by intro z; have := V.str.inj z; cases b <;> (revert this; decide +kernel))]
    exact q0
  | wait x y oe t =>
    obtain ⟨a, u, r', e1, ha, _⟩ := hR
    cases e1
    refine ⟨_, rfl, a, _, 4, rfl, ha, _, rfl, ?_⟩
    refine ⟨_, rfl, a, _, 0, _, rfl, rfl, SqT.of ha, atI_nat rfl, rfl, _, rfl, ?_⟩
    rw [decide_eq_false (by intro z; have := V.str.inj z; revert this; decide +kernel)]
    exact q0
  | iff e A B t =>
    obtain ⟨a, u, p, xs, p', ys, r', e1, ha, te, _⟩ := hR
    cases e1
    refine ⟨_, rfl, a, _, 4, rfl, ha, _, rfl, ?_⟩
    refine ⟨_, rfl, a, _, 0, _, rfl, rfl, SqT.of ha, atI_nat rfl, rfl, _, rfl, ?_⟩
    rw [decide_eq_true rfl]
    exact ⟨_, rfl, a, _, 1, _, rfl, rfl, SqT.of ha, atI_nat (j := 1) rfl, u, e, rfl, te, hok.2.1, q⟩
  | give b e t =>
    obtain ⟨a, u, r', e1, ha, _⟩ := hR
    cases e1
    exact ⟨_, rfl, a, _, 4, rfl, ha, _, rfl, q0⟩
theorem ok_plain {n : Nat} {f i t j k : Addr} {fd idd td jd kd : FuncData} {ds : List Value} (F : Fun K "is_plain_row" "is_plain_row" sPlain f fd) (TO : Fk P w K mg base 1 "is_tuple_of" t td ["thing", "many"] spTupOf) (IE : Fk P w K mg base 9 "is_expression" i idd ["thing", "deepest"] (spIsEx 6)) (vE : Vals [V.int 6] ds) (bE : Binds K idd ["thing", "deepest"] ds)
    (IN : Fk P w K mg base 1 "is_name" j jd ["thing"] spIsName) (AE : Fk P w K mg base 10 "are_expressions" k kd ["thing"] spAreEx) : FnOk P w K mg base CX0 11 f fd ["thing"] (spPlain n) := by
  refine F.ok scPlain (fun vs H Q E h => ?_) (fun cdv A outer s H vs Q E hr h => ?_)
  · obtain ⟨v, rs, r, rfl, _⟩ := h
    rfl
  obtain ⟨v, rs, r, rfl, hR, hok, hif, q⟩ := h
  refine ⟨_, (pss_cons (ps_if (pt_val (pe_call TO.G (hr.mono (by omega)) (by rfl) TO.m TO.k TO.b .nil pass0 (pa_cons (pv 0) (pa_cons pe_int pa_nil))))
      (pss_one (ps_ret (pe_and (pe_cmpR op_in_seq (pe_ix ix_tup (pv 0) pe_int (fun _ _ => rfl)) (pe_tup (pa_cons pe_str (pa_cons pe_str pa_nil))) rfl) (pe_one (pe_call IE.G (hr.mono (by omega)) (by rfl) IE.m IE.k bE vE pass0 (pa_cons (pe_ix ix_tup (pv 0) pe_int (fun _ _ => rfl)) pa_nil))))))
      pss_nil)
    (pss_cons (ps_if (pt_val (pe_call TO.G (hr.mono (by omega)) (by rfl) TO.m TO.k TO.b .nil pass0 (pa_cons (pv 0) (pa_cons pe_int pa_nil))))
      (pss_one (ps_ret (pe_and (pe_cmpR op_eq (pe_ix ix_tup (pv 0) pe_int (fun _ _ => rfl)) pe_str (nomark _)) (pe_and (pe_call IN.G (hr.mono (by omega)) (by rfl) IN.m IN.k IN.b .nil pass0 (pa_cons (pe_ix ix_tup (pv 0) pe_int (fun _ _ => rfl)) pa_nil)) (pe_one (pe_call IE.G (hr.mono (by omega)) (by rfl) IE.m IE.k bE vE pass0 (pa_cons (pe_ix ix_tup (pv 0) pe_int (fun _ _ => rfl)) pa_nil)))))))
      pss_nil)
    (pss_cons (ps_if (PW.pt (pw_or (pt_not (pt_val (pe_call TO.G (hr.mono (by omega)) (by rfl) TO.m TO.k TO.b .nil pass0 (pa_cons (pv 0) (pa_cons pe_int pa_nil))))) (pw_or (pt_not (pt_val (pe_call IN.G (hr.mono (by omega)) (by rfl) IN.m IN.k IN.b .nil pass0 (pa_cons (pe_ix ix_tup (pv 0) pe_int (fun _ _ => rfl)) pa_nil)))) (pw_or1 (pt_not (pt_val (pe_call IN.G (hr.mono (by omega)) (by rfl) IN.m IN.k IN.b .nil pass0 (pa_cons (pe_ix ix_tup (pv 0) pe_int (fun _ _ => rfl)) pa_nil))))))))
      (pss_one (ps_ret pe_bl))
      pss_nil)
    (pss_cons (ps_if (pt_cmpR op_eq (pe_ix ix_tup (pv 0) pe_int (fun _ _ => rfl)) pe_str (nomark _))
      (pss_one (ps_ret (pe_or (pe_cmpR op_isN (pe_ix ix_tup (pv 0) pe_int (fun _ _ => rfl)) pe_non (nomark _)) (pe_one (pe_call IE.G (hr.mono (by omega)) (by rfl) IE.m IE.k bE vE pass0 (pa_cons (pe_ix ix_tup (pv 0) pe_int (fun _ _ => rfl)) pa_nil))))))
      pss_nil)
    (pss_one (ps_ret (pe_and (pe_cmpR op_in_seq (pe_ix ix_tup (pv 0) pe_int (fun _ _ => rfl)) (pe_tup (pa_cons pe_str (pa_cons pe_str pa_nil))) rfl) (pe_one (pe_call AE.G (hr.mono (by omega)) (by rfl) AE.m AE.k AE.b .nil pass0 (pa_cons (pe_ix ix_tup (pv 0) pe_int (fun _ _ => rfl)) pa_nil)))))))))), ?_⟩
  cases rs with
  | nil => cases hR
  | put x e t =>
    obtain ⟨a, u, r', e1, ha, te, _⟩ := hR
    cases e1
    refine ⟨_, rfl, a, _, 2, rfl, ha, _, rfl, ?_⟩
    refine ⟨_, rfl, a, _, 3, rfl, ha, _, rfl, ?_⟩
    refine ⟨_, rfl, a, _, 0, _, rfl, rfl, SqT.of ha, atI_nat rfl, rfl, _, rfl, ?_⟩
    rw [decide_eq_true rfl]
    refine ⟨_, rfl, a, _, 1, _, rfl, rfl, SqT.of ha, atI_nat (j := 1) rfl, x, rfl, hok.1, fun H1 s1 => ⟨_, rfl, ?_⟩⟩
    exact ⟨_, rfl, a, _, 2, _, rfl, rfl, SqT.of (s1 _ _ ha), atI_nat (j := 2) rfl, u, e, rfl, te.same s1, hok.2.1, fun H2 s2 => q H2 (s1.trans s2)⟩
  | go b x g es t =>
    obtain ⟨a, p, ws, r', e1, ha, hp, ts, _⟩ := hR
    cases e1
    refine ⟨_, rfl, a, _, 2, rfl, ha, _, rfl, ?_⟩
    refine ⟨_, rfl, a, _, 3, rfl, ha, _, rfl, ?_⟩
    refine ⟨_, rfl, a, _, 4, rfl, ha, _, rfl, ?_⟩
    refine ⟨_, rfl, a, _, 1, _, rfl, rfl, SqT.of ha, atI_nat (j := 1) rfl, x, rfl, hok.1, fun H1 s1 => ⟨_, rfl, ?_⟩⟩
    refine ⟨_, rfl, a, _, 2, _, rfl, rfl, SqT.of (s1 _ _ ha), atI_nat (j := 2) rfl, g, rfl, hok.2.1, fun H2 s2 => ⟨_, rfl, ?_⟩⟩
    have s12 := s1.trans s2
    refine ⟨_, rfl, a, _, 0, _, rfl, rfl, SqT.of (s12 _ _ ha), atI_nat rfl, rfl, _, rfl, ?_⟩
    rw [decide_eq_false (by intro z; have := V.str.inj z; cases b <;> (revert this; decide +kernel))]
    refine iteF ?_
    refine ⟨_, rfl, a, _, 0, _, rfl, rfl, SqT.of (s12 _ _ ha), atI_nat rfl, (by show 2 ≤ sizeLine; decide), fun l hl => ?_⟩
    have s3 := same_new hl (.tup [.str "go", .str "call"])
    have ein : inV (.str (goW b)) [.str "go", .str "call"] = true := by cases b <;> decide +kernel
    refine ⟨l, _, rfl, .inr (SqT.of upd_same), rfl, rfl, _, rfl, ?_⟩
    rw [if_neg Bool.false_ne_true, ein]
    have s13 := s12.trans s3
    exact ⟨_, rfl, a, _, 3, _, rfl, rfl, SqT.of (s13 _ _ ha), atI_nat (j := 3) rfl, p, es, ws, rfl, s13 _ _ hp, ts.same s13, hok.2.2.1, hok.2.2.2.1, fun H4 s4 => q H4 (s13.trans s4)⟩
  | wait x y oe t =>
    obtain ⟨a, u, r', e1, ha, to, _⟩ := hR
    cases e1
    refine ⟨_, rfl, a, _, 2, rfl, ha, _, rfl, ?_⟩
    refine ⟨_, rfl, a, _, 3, rfl, ha, _, rfl, ?_⟩
    refine ⟨_, rfl, a, _, 4, rfl, ha, _, rfl, ?_⟩
    refine ⟨_, rfl, a, _, 1, _, rfl, rfl, SqT.of ha, atI_nat (j := 1) rfl, x, rfl, hok.1, fun H1 s1 => ⟨_, rfl, ?_⟩⟩
    refine ⟨_, rfl, a, _, 2, _, rfl, rfl, SqT.of (s1 _ _ ha), atI_nat (j := 2) rfl, y, rfl, hok.2.1, fun H2 s2 => ⟨_, rfl, ?_⟩⟩
    have s12 := s1.trans s2
    refine ⟨_, rfl, a, _, 0, _, rfl, rfl, SqT.of (s12 _ _ ha), atI_nat rfl, rfl, _, rfl, ?_⟩
    rw [decide_eq_true rfl]
    refine iteT ?_
    refine ⟨_, rfl, a, _, 3, _, rfl, rfl, SqT.of (s12 _ _ ha), atI_nat (j := 3) rfl, rfl, _, rfl, ?_⟩
    cases oe with
    | none =>
      cases to
      rw [decide_eq_true rfl]
      exact q H2 s12
    | some e =>
      have hne : ¬ u = V.non := fun z => by
        obtain ⟨a', xs', e', _⟩ := TrIn.tup to
        rw [z] at e'
        cases e'
      rw [decide_eq_false hne]
      exact ⟨_, rfl, a, _, 3, _, rfl, rfl, SqT.of (s12 _ _ ha), atI_nat (j := 3) rfl, u, e, rfl, TrIn.same s12 to, hok.2.2.1 e rfl, fun H3 s3 => q H3 (s12.trans s3)⟩
  | iff e A B t => cases hif
  | give b e t =>
    obtain ⟨a, u, r', e1, ha, te, _⟩ := hR
    cases e1
    refine ⟨_, rfl, a, _, 2, rfl, ha, _, rfl, ?_⟩
    refine ⟨_, rfl, a, _, 0, _, rfl, rfl, SqT.of ha, atI_nat rfl, (by show 2 ≤ sizeLine; decide), fun l hl => ?_⟩
    have s3 := same_new hl (.tup [.str "give", .str "fail"])
    have ein : inV (.str (giveW b)) [.str "give", .str "fail"] = true := by cases b <;> decide +kernel
    refine ⟨l, _, rfl, .inr (SqT.of upd_same), rfl, rfl, _, rfl, ?_⟩
    rw [if_neg Bool.false_ne_true, ein]
    exact ⟨_, rfl, a, _, 1, _, rfl, rfl, SqT.of (s3 _ _ ha), atI_nat (j := 1) rfl, u, e, rfl, te.same s3, hok.1, fun H4 s4 => q H4 (s3.trans s4)⟩
theorem ok_rowL {n k : Nat} {f i j b : Addr} {fd idd jd bd : FuncData} (hk : 11 ≤ k) (F : Fun K "row_left" "row_left" sRowL f fd) (IH : Fk P w K mg base 10 "is_if_head" i idd ["thing"] (spIfHead n)) (IP : Fk P w K mg base 11 "is_plain_row" j jd ["thing"] (spPlain n))
    (BL : 1 ≤ n → Fk P w K mg base k "branches_left" b bd ["row", "ifs", "left"] (spBranL (n - 1))) (mB : mg "branches_left" = some (.ref b)) (kB : PySem.W.keepIn K (.ref b) = true) (bB : Binds K bd ["row", "ifs", "left"] []) (G : Gf K mg) : FnOk P w K mg base CX0 (k + 1) f fd ["thing", "ifs", "left"] (spRowL n) := by
  refine F.ok scRowL (fun vs H Q E h => ?_) (fun cdv A outer s H vs Q E hr h => ?_)
  · obtain ⟨v, rs, r, l, rfl, _⟩ := h
    rfl
  obtain ⟨v, rs, r, l, rfl, hR, hok, hc, q⟩ := h
  have hpos := Rs.rc_pos hR
  have BG : ∃ sp, FnOk P w K mg base CX0 k b bd ["row", "ifs", "left"] sp ∧ (1 ≤ n → sp = spBranL (n - 1)) := by
    by_cases h1 : 1 ≤ n
    · exact ⟨_, (BL h1).G, fun _ => rfl⟩
    · refine ⟨fun _ _ _ _ => False, ⟨fun _ _ _ _ h => h.elim, fun _ _ _ _ _ _ _ _ _ _ _ _ _ h => h.elim⟩, fun z => absurd z h1⟩
  obtain ⟨spB, GB, eB⟩ := BG
  have BR : Fk P w K mg base k "branches_left" b bd ["row", "ifs", "left"] spB := ⟨GB, mB, kB, bB⟩
  refine ⟨_, (pss_cons (ps_if (pt_cmpR op_eq (pv 2) pe_int (nomark _))
      (pss_one (ps_ret (pe_gi G.norows)))
      pss_nil)
    (pss_cons (ps_if (pt_val (pe_call IH.G (hr.mono (by omega)) (by rfl) IH.m IH.k IH.b .nil pass0 (pa_cons (pv 0) pa_nil)))
      (pss_one (ps_ret (pe_ifExp (pt_cmpR op_eq (pv 1) pe_int (nomark _)) (pe_gi G.norows) (pe_call BR.G hr (by rfl) BR.m BR.k BR.b .nil pass0 (pa_cons (pv 0) (pa_cons (pe_op op_sub (pv 1) pe_int) (pa_cons (pe_op op_sub (pv 2) pe_int) pa_nil)))))))
      pss_nil)
    (pss_one (ps_ret (pe_ifExp (pt_val (pe_call IP.G (hr.mono (by omega)) (by rfl) IP.m IP.k IP.b .nil pass0 (pa_cons (pv 0) pa_nil))) (pe_op op_sub (pv 2) pe_int) (pe_gi G.norows)))))), ?_⟩
  refine ⟨_, rfl, rfl, _, rfl, ?_⟩
  rw [decide_eq_false (by intro z; have := V.int.inj z; omega)]
  refine iteF ?_
  refine ⟨_, rfl, v, rs, r, rfl, hR, hok, fun H1 s1 => ⟨_, rfl, ?_⟩⟩
  cases hi : rs.isIf with
  | false =>
    refine iteF ?_
    refine ⟨_, rfl, v, rs, r, rfl, hR.same s1, hok, hi, fun H2 s2 => ⟨_, rfl, ?_⟩⟩
    refine iteT ⟨_, rfl, _, _, rfl, rfl, ?_⟩
    have e1 : rs.rc = 1 := by
      cases rs with
      | nil => exact absurd hpos (by decide)
      | iff _ _ _ _ => cases hi
      | _ => rfl
    have e2 : (l : Int) - 1 = ((l - rs.rc : Nat) : Int) := by omega
    show Q (.int ((l : Int) - 1)) H2
    rw [e2]
    exact q H2 (s1.trans s2)
  | true =>
    refine iteT ?_
    cases rs with
    | iff e A B t =>
      obtain ⟨a, u, p, xs, p', ys, r', e1, ha, te, hp, hA, hp', hB, _⟩ := hR
      cases e1
      have hn : 1 ≤ n := hok.1
      have ec : (Rs.iff e A B t).rc = 1 + A.count + B.count := rfl
      refine ⟨_, rfl, rfl, _, rfl, ?_⟩
      rw [decide_eq_false (by intro z; have := V.int.inj z; omega)]
      refine iteF ?_
      have e2 : (l : Int) - 1 = ((l - 1 : Nat) : Int) := by omega
      have e3 : (n : Int) - 1 = ((n - 1 : Nat) : Int) := by omega
      refine ⟨_, rfl, _, rfl, _, _, rfl, rfl, _, rfl, _, _, rfl, rfl, ?_⟩
      rw [eB hn]
      refine ⟨a, p, p', u, A, B, xs, ys, l - 1, (by show [V.ref a, V.int ((n : Int) - 1), V.int ((l : Int) - 1)] = _; rw [e2, e3]), s1 _ _ ha, s1 _ _ hp, hA.same s1, s1 _ _ hp', hB.same s1, hok.2.2.1, hok.2.2.2.1, by omega, fun H2 s2 => ?_⟩
      have e4 : l - 1 - (A.count + B.count) = l - (Rs.iff e A B t).rc := by omega
      rw [e4]
      exact q H2 (s1.trans s2)
    | nil => cases hi
    | put _ _ _ => cases hi
    | go _ _ _ _ _ => cases hi
    | wait _ _ _ _ => cases hi
    | give _ _ _ => cases hi
theorem ok_branL {n k : Nat} {f r : Addr} {fd rd : FuncData} (F : Fun K "branches_left" "branches_left" sBranL f fd) (RL : Fk P w K mg base k "rows_left" r rd ["thing", "ifs", "left"] (spRowsL n)) (G : Gf K mg) : FnOk P w K mg base CX0 (k + 1) f fd ["row", "ifs", "left"] (spBranL n) := by
  refine F.ok scBranL (fun vs H Q E h => ?_) (fun cdv A outer s H vs Q E hr h => ?_)
  · obtain ⟨a, p, p', v, A, B, xs, ys, l, rfl, _⟩ := h
    rfl
  obtain ⟨a, p, p', v, A', B, xs, ys, l, rfl, ha, hp, hA, hp', hB, oA, oB, hc, q⟩ := h
  refine ⟨_, (pss_cons (ps_set (i := 2) scBranL.nd rfl (Or.inl rfl) (pe_call RL.G hr (by rfl) RL.m RL.k RL.b .nil pass0 (pa_cons (pe_ix ix_tup (pv 0) pe_int (fun _ _ => rfl)) (pa_cons (pv 1) (pa_cons (pv 2) pa_nil)))))
    (pss_one (ps_ret (pe_ifExp (pt_cmpR op_eq (pv 2) (pe_gi G.norows) (nomark _)) (pe_gi G.norows) (pe_call RL.G hr (by rfl) RL.m RL.k RL.b .nil pass0 (pa_cons (pe_ix ix_tup (pv 0) pe_int (fun _ _ => rfl)) (pa_cons (pv 1) (pa_cons (pv 2) pa_nil)))))))), ?_⟩
  refine ⟨_, rfl, a, _, 2, _, rfl, rfl, SqT.of ha, atI_nat (j := 2) rfl, _, rfl, _, rfl, p, A', xs, l, rfl, hp, hA, oA, by omega, fun H1 s1 => ?_⟩
  refine ⟨_, rfl, rfl, _, rfl, ?_⟩
  rw [decide_eq_false (by intro z; have := V.int.inj z; omega)]
  refine iteF ?_
  refine ⟨_, rfl, a, _, 3, _, rfl, rfl, SqT.of (s1 _ _ ha), atI_nat (j := 3) rfl, _, rfl, _, rfl, p', B, ys, l - A'.count, rfl, s1 _ _ hp', hB.same s1, oB, by omega, fun H2 s2 => ?_⟩
  have e4 : l - A'.count - B.count = l - (A'.count + B.count) := by omega
  rw [e4]
  exact q H2 (s1.trans s2)
theorem ok_rowsL {n k : Nat} {f r : Addr} {fd rd : FuncData} (F : Fun K "rows_left" "rows_left" sRowsL f fd) (RW : Fk P w K mg base k "row_left" r rd ["thing", "ifs", "left"] (spRowL n)) (T : Bi mg) (G : Gf K mg) (mt : mg "tuple" = none) : FnOk P w K mg base CX0 (k + 1) f fd ["thing", "ifs", "left"] (spRowsL n) := by
  refine F.ok scRowsL (fun vs H Q E h => ?_) (fun cdv A outer s H vs Q E hr h => ?_)
  · obtain ⟨p, rs, xs, l, rfl, _⟩ := h
    rfl
  obtain ⟨p, rs, xs, l, rfl, hp, hR, hok, hc, q⟩ := h
  refine ⟨_, (pss_cons (ps_if (pt_not (pt_val (pe_callB call_isi (by rfl) T.isinstance (by decide +kernel) (pa_cons (pv 0) (pa_cons (pe_bltn (v := .ty "tuple") (by rfl) mt (by decide +kernel) rfl) pa_nil)))))
      (pss_one (ps_ret (pe_gi G.norows)))
      pss_nil)
    (pss_cons (ps_for PassesOwn.never rfl (pi_tup (pv 0)) (pg_name (i := 3) scRowsL.nd rfl (.inl rfl))
      (pss_cons (ps_set (i := 2) scRowsL.nd rfl (Or.inl rfl) (pe_call RW.G hr (by rfl) RW.m RW.k RW.b .nil pass0 (pa_cons (pv 3) (pa_cons (pv 1) (pa_cons (pv 2) pa_nil)))))
    (pss_one (ps_if (pt_cmpR op_eq (pv 2) (pe_gi G.norows) (nomark _))
      (pss_one (ps_ret (pe_gi G.norows)))
      pss_nil))))
    (pss_one (ps_ret (pv 2))))), ?_⟩
  refine ⟨_, rfl, _, _, _, _, true, rfl, .ty "tuple", .base (.tup hp), kit_ty (by decide +kernel), _, rfl, ?_⟩
  refine ⟨_, rfl, p, rfl, ⟨_, SqT.of hp⟩, ?_⟩
  refine for_tup (K := K) (a := p) (xs := xs) (fun i σ H' => ∃ (rs' : Rs) (l' : Nat) (y : Option V), σ = [some (.ref p), some (.int n), some (.int l'), y] ∧ RsIn H' rs' (xs.drop i) ∧ Rs.ok n rs' ∧ rs'.count ≤ l' ∧ l' - rs'.count = l - rs.count ∧ Same H H') ?_ ?_ ?_ ?_
  · exact ⟨rs, l, none, rfl, hR, hok, hc, rfl, Same.refl H⟩
  · rintro i σ H' _ ⟨rs', l', y, _, _, _, _, _, s'⟩
    exact SqT.of (s' _ _ hp)
  · rintro i v σ H1 hv ⟨rs', l', y, rfl, hR', ok', hc', e', s1⟩
    have hd : xs.drop i = v :: xs.drop (i + 1) := by
      obtain ⟨hi, e⟩ := List.getElem?_eq_some_iff.mp hv
      rw [List.drop_eq_getElem_cons hi, e]
    rw [hd] at hR'
    have ce := rs'.count_eq
    refine ⟨_, rfl, _, rfl, _, rfl, v, rs', _, l', rfl, hR', ok', by omega, fun H2 s2 => ?_⟩
    refine ⟨_, rfl, rfl, _, rfl, ?_⟩
    rw [decide_eq_false (by intro z; have := V.int.inj z; omega)]
    refine iteF ?_
    exact ⟨rs'.tl, l' - rs'.rc, _, rfl, hR'.tl.same s2, Rs.ok_tl ok', by omega, by omega, s1.trans s2⟩
  · rintro σ H1 ⟨rs', l', y, rfl, hR', ok', hc', e', s1⟩
    rw [List.drop_length] at hR'
    have z : rs'.count = 0 := by
      cases rs' with
      | nil => rfl
      | put _ _ _ => obtain ⟨_, _, _, e, _⟩ := hR'; cases e
      | go _ _ _ _ _ => obtain ⟨_, _, _, _, e, _⟩ := hR'; cases e
      | wait _ _ _ _ => obtain ⟨_, _, _, e, _⟩ := hR'; cases e
      | iff _ _ _ _ => obtain ⟨_, _, _, _, _, _, _, e, _⟩ := hR'; cases e
      | give _ _ _ => obtain ⟨_, _, _, e, _⟩ := hR'; cases e
    refine ⟨_, rfl, ?_⟩
    rw [show l' = l - rs.count by omega]
    exact q H1 s1
theorem ok_isWork {f t i a v r : Addr} {fd td idd ad vd rd : FuncData} (F : Fun K "is_work" "is_work" sIsWork f fd) (TO : Fk P w K mg base 1 "is_tuple_of" t td ["thing", "many"] spTupOf) (IN : Fk P w K mg base 1 "is_name" i idd ["thing"] spIsName) (AN : Fk P w K mg base 2 "are_names" a ad ["thing"] spAreNames)
    (WI : Fk P w K mg base 2 "is_whole_within" v vd ["thing", "most"] spWithin) (RL : Fk P w K mg base 22 "rows_left" r rd ["thing", "ifs", "left"] (spRowsL 3)) (G : Gf K mg) : FnOk P w K mg base CX0 23 f fd ["thing"] spIsWork := by
  refine F.ok scIsWork (fun vs H Q E h => ?_) (fun cdv A outer s H vs Q E hr h => ?_)
  · obtain ⟨v, W, rfl, _⟩ := h
    rfl
  obtain ⟨v, W, rfl, ⟨a, pn, pr, xs, rfl, ha, hpn, hpr, hR⟩, ok, q⟩ := h
  refine ⟨_, (pss_cons (ps_if (PW.pt (pw_or (pt_not (pt_val (pe_call TO.G (hr.mono (by omega)) (by rfl) TO.m TO.k TO.b .nil pass0 (pa_cons (pv 0) (pa_cons pe_int pa_nil))))) (pw_or1 (pt_cmpR op_ne (pe_ix ix_tup (pv 0) pe_int (fun _ _ => rfl)) pe_str (nomark _)))))
      (pss_one (ps_ret pe_bl))
      pss_nil)
    (pss_cons (ps_asg (pe_slice sl_tup (pv 0) (po_some pe_int) po_none) (pg_tup rfl (pgs_cons (pg_name (i := 1) scIsWork.nd rfl (.inl rfl)) (pgs_cons (pg_name (i := 2) scIsWork.nd rfl (.inl rfl)) (pgs_cons (pg_name (i := 3) scIsWork.nd rfl (.inl rfl)) (pgs_cons (pg_name (i := 4) scIsWork.nd rfl (.inl rfl)) pgs_nil))))))
    (pss_cons (ps_if (PW.pt (pw_or (pt_not (pt_val (pe_call IN.G (hr.mono (by omega)) (by rfl) IN.m IN.k IN.b .nil pass0 (pa_cons (pv 1) pa_nil)))) (pw_or (pt_not (pt_val (pe_call AN.G (hr.mono (by omega)) (by rfl) AN.m AN.k AN.b .nil pass0 (pa_cons (pv 2) pa_nil)))) (pw_or1 (pt_not (pt_val (pe_call WI.G (hr.mono (by omega)) (by rfl) WI.m WI.k WI.b .nil pass0 (pa_cons (pv 3) (pa_cons (pe_gi G.room) pa_nil)))))))))
      (pss_one (ps_ret pe_bl))
      pss_nil)
    (pss_one (ps_ret (pe_cmpR op_ne (pe_call RL.G (hr.mono (by omega)) (by rfl) RL.m RL.k RL.b .nil pass0 (pa_cons (pv 4) (pa_cons (pe_gi G.ifs) (pa_cons (pe_gi G.rows) pa_nil)))) (pe_gi G.norows) (nomark _))))))), ?_⟩
  refine ⟨_, rfl, a, _, 5, rfl, ha, _, rfl, ?_⟩
  refine ⟨_, rfl, a, _, 0, _, rfl, rfl, SqT.of ha, atI_nat rfl, rfl, _, rfl, ?_⟩
  refine iteNS rfl ?_
  refine ⟨_, rfl, 1, rfl, a, _, rfl, SqT.of ha, (show ¬ (HT.sIx 5 0 (some 1) = 0 ∧ HT.sIx 5 5 none = 5) by decide), fun p hp => ?_⟩
  have s1 := same_new hp (.tup [.str W.name, .ref pn, .int W.room, .ref pr])
  refine ⟨p, _, rfl, SqT.of upd_same, rfl, _, _, rfl, _, _, rfl, _, _, rfl, _, _, rfl, rfl, ?_⟩
  refine ⟨_, rfl, W.name, rfl, ok.name, fun H2 s2 => ⟨_, rfl, ?_⟩⟩
  have s12 := s1.trans s2
  refine ⟨_, rfl, pn, W.names, rfl, s12 _ _ hpn, ok.few, ok.names, ok.nd, fun H3 s3 => ⟨_, rfl, ?_⟩⟩
  have s13 := s12.trans s3
  refine ⟨_, rfl, W.room, 1000, rfl, ok.room0, ok.room1, _, rfl, ?_⟩
  refine ⟨_, rfl, pr, W.rows, xs, 40, rfl, s13 _ _ hpr, hR.same s13, ok.rows, ok.count, fun H4 s4 => ⟨rfl, ?_⟩⟩
  rw [decide_eq_false (by intro z; have := V.int.inj z; omega)]
  exact q H4 (s13.trans s4)
theorem ok_chkWork {f i : Addr} {fd idd : FuncData} (F : Fun K "check_work" "check_work" sChkWork f fd) (IW : Fk P w K mg base 23 "is_work" i idd ["thing"] spIsWork) : FnOk P w K mg base CX0 24 f fd ["thing"] spChkWork := by
  refine F.ok scChkWork (fun vs H Q E h => ?_) (fun cdv A outer s H vs Q E hr h => ?_)
  · obtain ⟨v, W, rfl, _⟩ := h
    rfl
  obtain ⟨v, W, rfl, hW, ok, q⟩ := h
  refine ⟨_, (pss_one (ps_if (pt_not (pt_val (pe_call IW.G (hr.mono (by omega)) (by rfl) IW.m IW.k IW.b .nil pass0 (pa_cons (pv 0) pa_nil))))
      (pss_one ps_never)
      pss_nil)), ?_⟩
  exact ⟨_, rfl, v, W, rfl, hW, ok, fun H1 s1 => ⟨_, rfl, q H1 s1⟩⟩
end
end SH

set_option Elab.async false
set_option linter.all false
set_option maxRecDepth 100000
namespace SH
open PySem L2
abbrev sChkWorks : Stmt := topS 58
abbrev sStartsIn : Stmt := topS 62
abbrev sChkStarts : Stmt := topS 59
abbrev sHanded : Stmt := topS 60
abbrev sChkStart : Stmt := topS 61
abbrev sBookInit : Stmt := inClass (topS 63) 0
theorem scChkWorks : FnScope ["thing", "work"] ["thing"] (defScope sChkWorks) := ⟨rfl, rfl, rfl, by decide +kernel, rfl, by decide +kernel, by decide +kernel⟩
theorem scStartsIn : FnScope ["rows", "starts", "row"] ["rows"] (defScope sStartsIn) := ⟨rfl, rfl, rfl, by decide +kernel, rfl, by decide +kernel, by decide +kernel⟩
theorem scChkStarts : FnScope ["works", "handed", "work", "start"] ["works"] (defScope sChkStarts) := ⟨rfl, rfl, rfl, by decide +kernel, rfl, by decide +kernel, by decide +kernel⟩
theorem scHanded : FnScope ["works", "work"] ["works"] (defScope sHanded) := ⟨rfl, rfl, rfl, by decide +kernel, rfl, by decide +kernel, by decide +kernel⟩
theorem scChkStart : FnScope ["start", "handed"] ["start", "handed"] (defScope sChkStart) := ⟨rfl, rfl, rfl, by decide +kernel, rfl, by decide +kernel, by decide +kernel⟩
theorem scBookInit : FnScope ["self", "works"] ["self", "works"] (defScope sBookInit) := ⟨rfl, rfl, rfl, by decide +kernel, rfl, by decide +kernel, by decide +kernel⟩
/-- over a list that stays -/
theorem txc_list {Pr : Program} {w : World} {K : PySem.W.Frag} {a : Addr} {xs : List V} {g : TG} {te : TE} {vs : List Nat} {σ : St} {H1 : Hp} {D : Addr} {Qd : Hp → Prop} (Pv : Nat → Hp → Prop) (h0 : Pv 0 (upd H1 D (TxtO Pr w D []))) (hl : ∀ i H, i ≤ xs.length → Pv i H → SqL K H a xs)
    (hs : ∀ i x H, xs[i]? = some x → Pv i H → g x (wipe σ vs) H fun σ2 H2 => wipe σ2 vs = wipe σ vs ∧ te σ2 H2 fun y H4 => ∃ (z : Str) (l : List Str), y = .str z ∧ H4 D = some (TxtO Pr w D l) ∧ l.length + 1 < scanBound ∧ Pv (i + 1) (upd H4 D (TxtO Pr w D (SHSet.addT l z)))) (hd : ∀ H, Pv xs.length H → Qd H) :
    ∃ W : Nat → Nat → Hp → Prop, (∃ m, W 0 m (upd H1 D (TxtO Pr w D []))) ∧ ∀ i m H, W i m H → ((Itl K a).stop i H ∧ Qd H) ∨ ((Itl K a).go i H ∧ ∃ Nx : Hp → Prop, (∀ H', Nx H' → ∃ m', m' < m ∧ W (i + 1) m' H') ∧
      ∀ x H', (Itl K a).yld i H x H' → g x (wipe σ vs) H' fun σ2 H2 => wipe σ2 vs = wipe σ vs ∧ te σ2 H2 fun y H4 => ∃ (z : Str) (l : List Str), y = .str z ∧ H4 D = some (TxtO Pr w D l) ∧ l.length + 1 < scanBound ∧ Nx (upd H4 D (TxtO Pr w D (SHSet.addT l z)))) := by
  refine ⟨fun i m H => m + i = xs.length ∧ Pv i H, ⟨xs.length, Nat.add_zero _, h0⟩, ?_⟩
  rintro i m H ⟨e, p⟩
  have q := hl i H (by omega) p
  rcases Nat.eq_zero_or_pos m with z | z
  · exact .inl ⟨⟨xs, q, by omega⟩, hd H (by rw [show xs.length = i by omega]; exact p)⟩
  · have lt : i < xs.length := by omega
    exact .inr ⟨⟨xs, xs[i], q, List.getElem?_eq_getElem lt⟩, Pv (i + 1), fun H' p' => ⟨m - 1, by omega, by omega, p'⟩, fun x H' y => y.1 ▸ hs i x H (y.2 xs q) p⟩
theorem dc_list {K : PySem.W.Frag} {a : Addr} {xs : List V} {g : TG} {tk tv : TE} {vs : List Nat} {σ : St} {H1 : Hp} {D : Addr} {Qd : Hp → Prop} (Pv : Nat → Hp → Prop) (h0 : Pv 0 (upd H1 D (.dK []))) (hl : ∀ i H, i ≤ xs.length → Pv i H → SqL K H a xs)
    (hs : ∀ i x H, xs[i]? = some x → Pv i H → g x (wipe σ vs) H fun σ2 H2 => wipe σ2 vs = wipe σ vs ∧ tYes σ2 H2 fun b H3 => if b = true then tk σ2 H3 fun y H4 => tv σ2 H4 fun z H5 => ∃ kvs k, y = kV k ∧ H5 D = some (.dK kvs) ∧ kvs.length < sizeLine ∧ Pv (i + 1) (upd H5 D (.dK (putK kvs k z))) else Pv (i + 1) H3) (hd : ∀ H, Pv xs.length H → Qd H) :
    ∃ W : Nat → Nat → Hp → Prop, (∃ m, W 0 m (upd H1 D (.dK []))) ∧ ∀ i m H, W i m H → ((Itl K a).stop i H ∧ Qd H) ∨ ((Itl K a).go i H ∧ ∃ Nx : Hp → Prop, (∀ H', Nx H' → ∃ m', m' < m ∧ W (i + 1) m' H') ∧
      ∀ x H', (Itl K a).yld i H x H' → g x (wipe σ vs) H' fun σ2 H2 => wipe σ2 vs = wipe σ vs ∧ tYes σ2 H2 fun b H3 => if b = true then tk σ2 H3 fun y H4 => tv σ2 H4 fun z H5 => ∃ kvs k, y = kV k ∧ H5 D = some (.dK kvs) ∧ kvs.length < sizeLine ∧ Nx (upd H5 D (.dK (putK kvs k z))) else Nx H3) := by
  refine ⟨fun i m H => m + i = xs.length ∧ Pv i H, ⟨xs.length, Nat.add_zero _, h0⟩, ?_⟩
  rintro i m H ⟨e, p⟩
  have q := hl i H (by omega) p
  rcases Nat.eq_zero_or_pos m with z | z
  · exact .inl ⟨⟨xs, q, by omega⟩, hd H (by rw [show xs.length = i by omega]; exact p)⟩
  · have lt : i < xs.length := by omega
    exact .inr ⟨⟨xs, xs[i], q, List.getElem?_eq_getElem lt⟩, Pv (i + 1), fun H' p' => ⟨m - 1, by omega, by omega, p'⟩, fun x H' y => y.1 ▸ hs i x H (y.2 xs q) p⟩
/-! ### rows one behind another -/
def Rs.app : Rs → Rs → Rs
  | .nil, b => b
  | .put x e t, b => .put x e (t.app b)
  | .go w x f es t, b => .go w x f es (t.app b)
  | .wait x y e t, b => .wait x y e (t.app b)
  | .iff e p q t, b => .iff e p q (t.app b)
  | .give w e t, b => .give w e (t.app b)
theorem Rs.app_starts (b : Rs) : ∀ a : Rs, (a.app b).starts = a.starts ++ b.starts
  | .nil => rfl
  | .put _ _ t => Rs.app_starts b t
  | .go _ _ f es t => by show (f, es.length) :: (t.app b).starts = _; rw [Rs.app_starts b t]; rfl
  | .wait _ _ _ t => Rs.app_starts b t
  | .iff _ p q t => by show p.starts ++ q.starts ++ (t.app b).starts = p.starts ++ q.starts ++ t.starts ++ b.starts; rw [Rs.app_starts b t, List.append_assoc (p.starts ++ q.starts)]
  | .give _ _ t => Rs.app_starts b t
theorem Rs.app_ok {n : Nat} {b : Rs} (hb : Rs.ok n b) : ∀ {a : Rs}, Rs.ok n a → Rs.ok n (a.app b)
  | .nil, _ => hb
  | .put _ _ _, h => ⟨h.1, h.2.1, Rs.app_ok hb h.2.2⟩
  | .go _ _ _ _ _, h => ⟨h.1, h.2.1, h.2.2.1, h.2.2.2.1, Rs.app_ok hb h.2.2.2.2⟩
  | .wait _ _ _ _, h => ⟨h.1, h.2.1, h.2.2.1, Rs.app_ok hb h.2.2.2⟩
  | .iff _ _ _ _, h => ⟨h.1, h.2.1, h.2.2.1, h.2.2.2.1, Rs.app_ok hb h.2.2.2.2⟩
  | .give _ _ _, h => ⟨h.1, Rs.app_ok hb h.2⟩
theorem RsIn.app {H : Hp} {b : Rs} {ys : List V} (hb : RsIn H b ys) : ∀ {a : Rs} {xs : List V}, RsIn H a xs → RsIn H (a.app b) (xs ++ ys)
  | .nil, _, h => by cases h; exact hb
  | .put _ _ _, _, ⟨a, v, r, e, k, t, q⟩ => by cases e; exact ⟨a, v, _, rfl, k, t, RsIn.app hb q⟩
  | .go _ _ _ _ _, _, ⟨a, p, ws, r, e, k, k2, t, q⟩ => by cases e; exact ⟨a, p, ws, _, rfl, k, k2, t, RsIn.app hb q⟩
  | .wait _ _ _ _, _, ⟨a, v, r, e, k, t, q⟩ => by cases e; exact ⟨a, v, _, rfl, k, t, RsIn.app hb q⟩
  | .iff _ _ _ _, _, ⟨a, v, p, xs, p', ys, r, e, k, t, k1, q1, k2, q2, q⟩ => by cases e; exact ⟨a, v, p, xs, p', ys, _, rfl, k, t, k1, q1, k2, q2, RsIn.app hb q⟩
  | .give _ _ _, _, ⟨a, v, r, e, k, t, q⟩ => by cases e; exact ⟨a, v, _, rfl, k, t, RsIn.app hb q⟩
theorem RsIn.len {H : Hp} : ∀ {a : Rs} {xs : List V}, RsIn H a xs → xs.length ≤ a.count
  | .nil, _, h => by cases h; exact Nat.le_refl _
  | .put _ _ t, _, ⟨a, v, r, e, k, _, q⟩ => by cases e; have := RsIn.len q; show _ + 1 ≤ 1 + t.count; omega
  | .go _ _ _ _ t, _, ⟨a, p, ws, r, e, k, k2, _, q⟩ => by cases e; have := RsIn.len q; show _ + 1 ≤ 1 + t.count; omega
  | .wait _ _ _ t, _, ⟨a, v, r, e, k, _, q⟩ => by cases e; have := RsIn.len q; show _ + 1 ≤ 1 + t.count; omega
  | .iff _ A B t, _, ⟨a, v, p, xs, p', ys, r, e, k, _, k1, q1, k2, q2, q⟩ => by cases e; have := RsIn.len q; show _ + 1 ≤ 1 + A.count + B.count + t.count; omega
  | .give _ _ t, _, ⟨a, v, r, e, k, _, q⟩ => by cases e; have := RsIn.len q; show _ + 1 ≤ 1 + t.count; omega
theorem Rs.starts_le : ∀ a : Rs, a.starts.length ≤ a.count
  | .nil => Nat.le_refl _
  | .put _ _ t => by have := Rs.starts_le t; show t.starts.length ≤ 1 + t.count; omega
  | .go _ _ _ _ t => by have := Rs.starts_le t; show t.starts.length + 1 ≤ 1 + t.count; omega
  | .wait _ _ _ t => by have := Rs.starts_le t; show t.starts.length ≤ 1 + t.count; omega
  | .iff _ a b t => by
    have := Rs.starts_le t; have := Rs.starts_le a; have := Rs.starts_le b
    show (a.starts ++ b.starts ++ t.starts).length ≤ 1 + a.count + b.count + t.count
    rw [List.length_append, List.length_append]; omega
  | .give _ _ t => by have := Rs.starts_le t; show t.starts.length ≤ 1 + t.count; omega
theorem Rs.app_count (b : Rs) : ∀ a : Rs, (a.app b).count = a.count + b.count
  | .nil => (Nat.zero_add _).symm
  | .put _ _ t => by show 1 + (t.app b).count = 1 + t.count + b.count; rw [Rs.app_count b t]; omega
  | .go _ _ _ _ t => by show 1 + (t.app b).count = 1 + t.count + b.count; rw [Rs.app_count b t]; omega
  | .wait _ _ _ t => by show 1 + (t.app b).count = 1 + t.count + b.count; rw [Rs.app_count b t]; omega
  | .iff _ p q t => by show 1 + p.count + q.count + (t.app b).count = 1 + p.count + q.count + t.count + b.count; rw [Rs.app_count b t]; omega
  | .give _ _ t => by show 1 + (t.app b).count = 1 + t.count + b.count; rw [Rs.app_count b t]; omega
/-! ### goes and calls as they lie -/
def StAt (H : Hp) (st : Str × Nat) (v : V) : Prop := ∃ (a : Addr) (wd x : V) (p : Addr) (ws : List V), v = .ref a ∧ H a = some (.tup [wd, x, .str st.1, .ref p]) ∧ H p = some (.tup ws) ∧ ws.length = st.2
theorem StAt.same {H H' : Hp} {st : Str × Nat} {v : V} (h : Same H H') : StAt H st v → StAt H' st v
  | ⟨a, wd, x, p, ws, e, k1, k2, l⟩ => ⟨a, wd, x, p, ws, e, h _ _ k1, h _ _ k2, l⟩
def StsAt (H : Hp) (sts : List (Str × Nat)) (vs : List V) : Prop := vs.length = sts.length ∧ ∀ (i : Nat) (st : Str × Nat) (v : V), sts[i]? = some st → vs[i]? = some v → StAt H st v
theorem StsAt.same {H H' : Hp} {sts : List (Str × Nat)} {vs : List V} (h : Same H H') (q : StsAt H sts vs) : StsAt H' sts vs := ⟨q.1, fun i st v a b => (q.2 i st v a b).same h⟩
theorem StsAt.app {H : Hp} {s1 s2 : List (Str × Nat)} {v1 v2 : List V} (a : StsAt H s1 v1) (b : StsAt H s2 v2) : StsAt H (s1 ++ s2) (v1 ++ v2) := by
  refine ⟨by rw [List.length_append, List.length_append, a.1, b.1], fun i st v h1 h2 => ?_⟩
  by_cases hi : i < s1.length
  · rw [List.getElem?_append_left hi] at h1
    rw [List.getElem?_append_left (by rw [a.1]; exact hi)] at h2
    exact a.2 i st v h1 h2
  · rw [List.getElem?_append_right (by omega)] at h1
    rw [List.getElem?_append_right (by rw [a.1]; omega), a.1] at h2
    exact b.2 _ st v h1 h2
theorem StsAt.one {H : Hp} {st : Str × Nat} {v : V} (h : StAt H st v) : StsAt H [st] [v] := ⟨rfl, fun i st' v' h1 h2 => by
  cases i with
  | zero => cases h1; cases h2; exact h
  | succ i => simp at h1⟩
theorem StAt.upd_lst {H : Hp} {b : Addr} {ys zs : List V} (hb : H b = some (.lst ys)) {st : Str × Nat} {v : V} : StAt H st v → StAt (upd H b (.lst zs)) st v
  | ⟨a, wd, x, p, ws, e, k1, k2, l⟩ => ⟨a, wd, x, p, ws, e, by rw [upd_ne (lst_ne k1 hb)]; exact k1, by rw [upd_ne (lst_ne k2 hb)]; exact k2, l⟩
theorem StsAt.upd_lst {H : Hp} {b : Addr} {ys zs : List V} (hb : H b = some (.lst ys)) {sts : List (Str × Nat)} {vs : List V} (q : StsAt H sts vs) : StsAt (upd H b (.lst zs)) sts vs := ⟨q.1, fun i st v a c => (q.2 i st v a c).upd_lst hb⟩
def WksIn (H : Hp) (Ws : List Wk) (vs : List V) : Prop := vs.length = Ws.length ∧ ∀ (i : Nat) (v : V), vs[i]? = some v → ∃ W, Ws[i]? = some W ∧ WkIn H W v
theorem WksIn.same {H H' : Hp} {Ws : List Wk} {vs : List V} (h : Same H H') (q : WksIn H Ws vs) : WksIn H' Ws vs := ⟨q.1, fun i v e => by
  obtain ⟨W, a, b⟩ := q.2 i v e
  exact ⟨W, a, b.same h⟩⟩
structure WksOk (Ws : List Wk) : Prop where
  few : Ws.length ≤ 12
  each : ∀ W ∈ Ws, W.ok
  nd : (Ws.map Wk.name).Nodup
  starts : ∀ W ∈ Ws, ∀ st ∈ W.rows.starts, ∃ W' ∈ Ws, W'.name = st.1 ∧ W'.names.length = st.2
def spChkWorks : Sp := fun vs H Q _ => ∃ (l : Addr) (us : List V) (Ws : List Wk), vs = [.ref l] ∧ H l = some (.lst us) ∧ WksIn H Ws us ∧ WksOk Ws ∧ ∀ H', Same H H' → Q .non H'
def spStartsIn (n : Nat) : Sp := fun vs H Q _ => ∃ (p : Addr) (xs : List V) (rs : Rs), vs = [.ref p] ∧ H p = some (.tup xs) ∧ RsIn H rs xs ∧ Rs.ok n rs ∧ rs.count ≤ 1000 ∧
  ∀ (l : Addr) (ss : List V) (H' : Hp), Same H H' → H l = none → H' l = some (.lst ss) → StsAt H' rs.starts ss → Q (.ref l) H'
section
variable {P : Program} {w : World} {K : PySem.W.Frag} {mg : Str → Option Value} {base : Heap}
theorem ok_chkWorks {f c : Addr} {fd cd : FuncData} (F : Fun K "check_works" "check_works" sChkWorks f fd) (CW : Fk P w K mg base 24 "check_work" c cd ["thing"] spChkWork) (T : Bi mg) (G : Gf K mg) (mt : mg "list" = none) : FnOk P w K mg base CX0 25 f fd ["thing"] spChkWorks := by
  refine F.ok scChkWorks (fun vs H Q E h => ?_) (fun cdv A outer s H vs Q E hr h => ?_)
  · obtain ⟨l, us, Ws, rfl, _⟩ := h
    rfl
  obtain ⟨l, us, Ws, rfl, hl, hW, ok, q⟩ := h
  have h12 := ok.few
  refine ⟨_, (pss_cons (ps_if (PW.pt (pw_or (pt_not (pt_val (pe_callB call_isi (by rfl) T.isinstance (by decide +kernel) (pa_cons (pv 0) (pa_cons (pe_bltn (v := .ty "list") (by rfl) mt (by decide +kernel) rfl) pa_nil))))) (pw_or1 (pt_cmpR op_gt (pe_callB call_len_seq (by rfl) T.len (by decide +kernel) (pa_cons (pv 0) pa_nil)) (pe_gi G.works) (nomark _)))))
      (pss_one ps_never)
      pss_nil)
    (pss_cons (ps_for PassesOwn.never rfl (pi_list (pv 0)) (pg_name (i := 1) scChkWorks.nd rfl (.inl rfl))
      (pss_one (ps_expr (pe_call CW.G (hr.mono (by omega)) (by rfl) CW.m CW.k CW.b .nil pass0 (pa_cons (pv 1) pa_nil)))))
    (pss_one (ps_if (pt_cmpR op_lt (pe_callB call_lenTxt (by rfl) T.len (by decide +kernel) (pa_cons (pe_txc (own := [("work", 1)]) (g := gName 1) (by rfl) scChkWorks.nd (pi_list (pv 0)) (blkOk_by (own := [("work", 1)]) (N := ["thing", "work"]) (sc := defScope sChkWorks) (by decide +kernel)) (fun _ _ _ _ _ => pg_name (i := 1) scChkWorks.nd rfl (Or.inl rfl)) (fun _ _ _ _ _ => (pe_ix (ix_tupK K) (pv 1) pe_int (fun _ _ => rfl)))) pa_nil)) (pe_callB call_len_seq (by rfl) T.len (by decide +kernel) (pa_cons (pv 0) pa_nil)) (nomark _))
      (pss_one ps_never)
      pss_nil)))), ?_⟩
  refine ⟨_, rfl, _, _, _, _, true, rfl, .ty "list", .base (.lst hl), kit_ty (by decide +kernel), _, rfl, ?_⟩
  refine ⟨_, rfl, l, _, rfl, .inl (SqL.of hl), _, _, rfl, rfl, _, rfl, ?_⟩
  rw [decide_eq_false (by rw [hW.1]; omega : ¬ (12 : Int) < (us.length : Nat))]
  refine iteF ?_
  refine ⟨_, rfl, l, rfl, ⟨_, SqL.of hl⟩, ?_⟩
  refine for_list (K := K) (a := l) (xs := us) (fun i σ H' => ∃ y : Option V, σ = [some (.ref l), y] ∧ Same H H') ⟨none, rfl, Same.refl H⟩ (fun i σ H' _ ⟨_, _, s'⟩ => SqL.of (s' _ _ hl)) ?_ ?_
  · rintro i v σ H1 hv ⟨y, rfl, s1⟩
    obtain ⟨W, hWi, hin⟩ := hW.2 i v hv
    exact ⟨_, rfl, v, W, rfl, hin.same s1, ok.each W (List.mem_of_getElem? hWi), fun H2 s2 => ⟨_, rfl, s1.trans s2⟩⟩
  · rintro σ H1 ⟨y, rfl, s1⟩
    refine ⟨_, rfl, l, rfl, ⟨_, SqL.of (s1 _ _ hl)⟩, ?_⟩
    intro D hD
    refine txc_list (Pr := P) (w := w) (K := K) (a := l) (xs := us) (fun j H' => H' D = some (TxtO P w D ((Ws.map Wk.name).take j)) ∧ Same H1 H') ⟨upd_same, same_new hD _⟩ (fun j H' _ h => SqL.of (h.2 _ _ (s1 _ _ hl))) ?_ ?_
    · rintro j v H2 hv ⟨hD2, s2⟩
      obtain ⟨W, hWi, hin⟩ := hW.2 j v hv
      have hj : j < Ws.length := (List.getElem?_eq_some_iff.mp hWi).1
      obtain ⟨a, pn, pr, xs, rfl, ha, _⟩ := hin.same (s1.trans s2)
      refine ⟨rfl, ?_⟩
      refine ⟨_, rfl, a, _, 1, _, rfl, rfl, SqT.of ha, atI_nat (j := 1) rfl, W.name, _, rfl, hD2, ?_, ?_, ?_⟩
      · rw [List.length_take, List.length_map]
        unfold scanBound
        omega
      · have e : (Ws.map Wk.name)[j]? = some W.name := by rw [List.getElem?_map, hWi]; rfl
        have e2 : SHSet.addT ((Ws.map Wk.name).take j) W.name = (Ws.map Wk.name).take (j + 1) := by
          unfold SHSet.addT
          rw [List.take_add_one, e]
          refine if_neg fun m => ?_
          obtain ⟨i, hi, ei⟩ := List.mem_iff_getElem.mp m
          rw [List.length_take] at hi
          rw [List.getElem_take] at ei
          obtain ⟨h1, e1⟩ := List.getElem?_eq_some_iff.mp e
          have := (List.getElem_inj ok.nd).mp (ei.trans e1.symm)
          omega
        rw [upd_same, e2]
      · intro b o z
        rw [upd_ne (ne_of_none z hD)]
        exact s2 _ _ z
    · rintro H2 ⟨hD2, s2⟩
      have hle : us.length = (Ws.map Wk.name).length := by rw [hW.1, List.length_map]
      rw [hle, List.take_length] at hD2
      refine ⟨D, _, rfl, hD2, by rw [List.length_map]; omega, ?_⟩
      refine ⟨_, rfl, l, _, rfl, .inl (SqL.of (s2 _ _ (s1 _ _ hl))), _, _, rfl, rfl, _, rfl, ?_⟩
      rw [decide_eq_false (by rw [hle]; omega)]
      refine iteF ?_
      exact q H2 (s1.trans s2)
theorem ok_startsIn {n : Nat} {f : Addr} {fd : FuncData} (F : Fun K "starts_in" "starts_in" sStartsIn f fd) (SI : 1 ≤ n → FnOk P w K mg base CX0 n f fd ["rows"] (spStartsIn (n - 1))) (mS : mg "starts_in" = some (.ref f)) (bS : Binds K fd ["rows"] []) : FnOk P w K mg base CX0 (n + 1) f fd ["rows"] (spStartsIn n) := by
  refine F.ok scStartsIn (fun vs H Q E h => ?_) (fun cdv A outer s H vs Q E hr h => ?_)
  · obtain ⟨p, xs, rs, rfl, _⟩ := h
    rfl
  obtain ⟨p, xs, rs, rfl, hp, hR, hok, hc, q⟩ := h
  have BG : ∃ sp, FnOk P w K mg base CX0 n f fd ["rows"] sp ∧ (1 ≤ n → sp = spStartsIn (n - 1)) := by
    by_cases h1 : 1 ≤ n
    · exact ⟨_, SI h1, fun _ => rfl⟩
    · refine ⟨fun _ _ _ _ => False, ⟨fun _ _ _ _ h => h.elim, fun _ _ _ _ _ _ _ _ _ _ _ _ _ h => h.elim⟩, fun z => absurd z h1⟩
  obtain ⟨spB, GB, eB⟩ := BG
  have SR : Fk P w K mg base n "starts_in" f fd ["rows"] spB := ⟨GB, mS, F.kp, bS⟩
  refine ⟨_, (pss_cons (ps_set (i := 1) scStartsIn.nd rfl (Or.inl rfl) (pe_lst pa_nil))
    (pss_cons (ps_for PassesOwn.never rfl (pi_tup (pv 0)) (pg_name (i := 2) scStartsIn.nd rfl (.inl rfl))
      (pss_one (ps_if (pt_cmpR op_in_seq (pe_ix ix_tup (pv 2) pe_int (fun _ _ => rfl)) (pe_tup (pa_cons pe_str (pa_cons pe_str pa_nil))) rfl)
      (pss_one (ps_expr (pe_bm PySem.F.plainAttrs_list PySem.F.slot_list_append PySem.F.type_list_append mt_append (pv 1) (pa_cons (pv 2) pa_nil))))
      (pss_one (ps_if (pt_cmpR op_eq (pe_ix ix_tup (pv 2) pe_int (fun _ _ => rfl)) pe_str (nomark _))
      (pss_one (ps_expr (pe_bm PySem.F.plainAttrs_list PySem.F.slot_list_extend PySem.F.type_list_extend mt_extend (pv 1) (pa_cons (pe_call SR.G hr (by rfl) SR.m SR.k SR.b .nil pass0 (pa_cons (pe_op op_catA (pe_ix ix_tup (pv 2) pe_int (fun _ _ => rfl)) (pe_ix ix_tup (pv 2) pe_int (fun _ _ => rfl))) pa_nil)) pa_nil))))
      pss_nil)))))
    (pss_one (ps_ret (pv 1))))), ?_⟩
  have hs : sizeLine = 16777216 := by decide
  refine ⟨Nat.zero_le _, fun l hl => ?_⟩
  refine ⟨_, rfl, p, rfl, ⟨_, SqT.of ((same_new hl _) _ _ hp)⟩, ?_⟩
  have npl : p ≠ l := ne_of_none hp hl
  refine for_tup (K := K) (a := p) (xs := xs) (fun i σ H' => ∃ (rs' : Rs) (done : List (Str × Nat)) (ss : List V) (y : Option V), σ = [some (.ref p), some (.ref l), y] ∧ RsIn H' rs' (xs.drop i) ∧ Rs.ok n rs' ∧ done ++ rs'.starts = rs.starts ∧ done.length + rs'.count ≤ rs.count ∧ H' l = some (.lst ss) ∧ StsAt H' done ss ∧ Same H H') ?_ ?_ ?_ ?_
  · exact ⟨rs, [], [], none, rfl, hR.same (same_new hl _), hok, rfl, by show 0 + rs.count ≤ rs.count; omega, upd_same, ⟨rfl, fun i st v h1 _ => by simp at h1⟩, same_new hl _⟩
  · rintro i σ H' _ ⟨_, _, _, _, _, _, _, _, _, _, _, s'⟩
    exact SqT.of (s' _ _ hp)
  · rintro i v σ H1 hv ⟨rs', done, ss, y, rfl, hR', ok', hd', hc', hl1, hst, s1⟩
    have hdr : xs.drop i = v :: xs.drop (i + 1) := by
      obtain ⟨hi, e⟩ := List.getElem?_eq_some_iff.mp hv
      rw [List.drop_eq_getElem_cons hi, e]
    rw [hdr] at hR'
    have hcc := rs'.count_eq
    have pos := Rs.rc_pos hR'
    have htl := hR'.tl
    have ssl : ss.length = done.length := hst.1
    -- a row that is none of these
    have other : ∀ (H2 : Hp), Same H1 H2 → rs'.starts = rs'.tl.starts → ∃ (rs' : Rs) (done : List (Str × Nat)) (ss : List V) (y : Option V), [some (V.ref p), some (V.ref l), some v] = [some (.ref p), some (.ref l), y] ∧ RsIn H2 rs' (xs.drop (i + 1)) ∧ Rs.ok n rs' ∧ done ++ rs'.starts = rs.starts ∧ done.length + rs'.count ≤ rs.count ∧ H2 l = some (.lst ss) ∧ StsAt H2 done ss ∧ Same H H2 := fun H2 s2 e => ⟨rs'.tl, done, ss, _, rfl, htl.same s2, Rs.ok_tl ok', by rw [← e]; exact hd', by omega, s2 _ _ hl1, hst.same s2, s1.trans s2⟩
    have look : ∀ (z : Str) (us : List V) (a : Addr), v = .ref a → H1 a = some (.tup (.str z :: us)) → z ≠ "go" → z ≠ "call" → z ≠ "if" → rs'.starts = rs'.tl.starts → True := fun _ _ _ _ _ _ _ _ _ => trivial
    cases rs' with
    | nil => cases hR'
    | put x e t =>
      obtain ⟨a, u, r', e1, ha, _⟩ := hR'
      cases e1
      refine ⟨_, rfl, a, _, 0, _, rfl, rfl, SqT.of ha, atI_nat rfl, (by show 2 ≤ sizeLine; decide), fun b hb => ?_⟩
      have s2 := same_new hb (.tup [.str "go", .str "call"])
      refine ⟨b, _, rfl, .inr (SqT.of upd_same), rfl, rfl, false, (by decide +kernel), ?_⟩
      refine ⟨_, rfl, a, _, 0, _, rfl, rfl, SqT.of (s2 _ _ ha), atI_nat rfl, rfl, false, (by decide +kernel), ?_⟩
      exact other _ s2 rfl
    | wait x y' oe t =>
      obtain ⟨a, u, r', e1, ha, _⟩ := hR'
      cases e1
      refine ⟨_, rfl, a, _, 0, _, rfl, rfl, SqT.of ha, atI_nat rfl, (by show 2 ≤ sizeLine; decide), fun b hb => ?_⟩
      have s2 := same_new hb (.tup [.str "go", .str "call"])
      refine ⟨b, _, rfl, .inr (SqT.of upd_same), rfl, rfl, false, (by decide +kernel), ?_⟩
      refine ⟨_, rfl, a, _, 0, _, rfl, rfl, SqT.of (s2 _ _ ha), atI_nat rfl, rfl, false, (by decide +kernel), ?_⟩
      exact other _ s2 rfl
    | give wd e t =>
      obtain ⟨a, u, r', e1, ha, _⟩ := hR'
      cases e1
      refine ⟨_, rfl, a, _, 0, _, rfl, rfl, SqT.of ha, atI_nat rfl, (by show 2 ≤ sizeLine; decide), fun b hb => ?_⟩
      have s2 := same_new hb (.tup [.str "go", .str "call"])
      refine ⟨b, _, rfl, .inr (SqT.of upd_same), rfl, rfl, false, (by cases wd <;> decide +kernel), ?_⟩
      refine ⟨_, rfl, a, _, 0, _, rfl, rfl, SqT.of (s2 _ _ ha), atI_nat rfl, rfl, false, (by cases wd <;> decide +kernel), ?_⟩
      exact other _ s2 rfl
    | go wd x g es t =>
      obtain ⟨a, pp, ws, r', e1, ha, hpp, ts, _⟩ := hR'
      cases e1
      refine ⟨_, rfl, a, _, 0, _, rfl, rfl, SqT.of ha, atI_nat rfl, (by show 2 ≤ sizeLine; decide), fun b hb => ?_⟩
      have s2 := same_new hb (.tup [.str "go", .str "call"])
      refine ⟨b, _, rfl, .inr (SqT.of upd_same), rfl, rfl, true, (by cases wd <;> decide +kernel), ?_⟩
      have hl2 := s2 _ _ hl1
      refine ⟨_, rfl, .inl ⟨rfl, _, SqL.of hl2⟩, _, rfl, l, _, _, rfl, rfl, hl2, by omega, ?_⟩
      have htl2 : RsIn _ t (xs.drop (i + 1)) := htl.same s2
      have st : StAt _ (g, es.length) (.ref a) := ⟨a, _, _, pp, ws, rfl, s2 _ _ ha, s2 _ _ hpp, ts.len⟩
      have s3 : Same H (upd (upd H1 b (.tup [.str "go", .str "call"])) l (.lst (ss ++ [.ref a]))) := fun x o z => by rw [upd_ne (ne_of_none z hl)]; exact s2 _ _ (s1 _ _ z)
      refine ⟨t, done ++ [(g, es.length)], ss ++ [.ref a], _, rfl, ?_, Rs.ok_tl ok', ?_, ?_, upd_same, ((hst.same s2).upd_lst hl2).app (.one (st.upd_lst hl2)), s3⟩
      · exact RsIn.upd_lst hl2 htl2
      · rw [List.append_assoc]; exact hd'
      · rw [List.length_append, List.length_singleton]
        have : (Rs.go wd x g es t).tl.count = t.count := rfl
        omega
    | iff e A' B t =>
      obtain ⟨a, u, pA, xA, pB, xB, r', e1, ha, te, hpA, hA, hpB, hB, _⟩ := hR'
      cases e1
      have hn : 1 ≤ n := ok'.1
      refine ⟨_, rfl, a, _, 0, _, rfl, rfl, SqT.of ha, atI_nat rfl, (by show 2 ≤ sizeLine; decide), fun b hb => ?_⟩
      have s2 := same_new hb (.tup [.str "go", .str "call"])
      refine ⟨b, _, rfl, .inr (SqT.of upd_same), rfl, rfl, false, (by decide +kernel), ?_⟩
      refine ⟨_, rfl, a, _, 0, _, rfl, rfl, SqT.of (s2 _ _ ha), atI_nat rfl, rfl, true, (by decide +kernel), ?_⟩
      have hl2 := s2 _ _ hl1
      generalize upd H1 b (.tup [.str "go", .str "call"]) = H2 at s2 hl2
      refine ⟨_, rfl, .inl ⟨rfl, _, SqL.of hl2⟩, ?_⟩
      have ec : (Rs.iff e A' B t).count = 1 + A'.count + B.count + t.count := rfl
      have lA := hA.len
      have lB := hB.len
      have goOn : ∀ (pq : Addr) (H3 : Hp), Same H2 H3 → H3 pq = some (.tup (xA ++ xB)) → spB [.ref pq] H3 (fun v' H4 => ∃ (l' b' : Addr) (xs' zs : List V), V.ref l = .ref l' ∧ [v'] = [.ref b'] ∧ H4 l' = some (.lst xs') ∧ H4 b' = some (.lst zs) ∧ xs'.length + zs.length ≤ sizeLine ∧
          (∃ (rs' : Rs) (done : List (Str × Nat)) (ss : List V) (y : Option V), [some (V.ref p), some (V.ref l), some (V.ref a)] = [some (.ref p), some (.ref l), y] ∧ RsIn (upd H4 l' (.lst (xs' ++ zs))) rs' (xs.drop (i + 1)) ∧ Rs.ok n rs' ∧ done ++ rs'.starts = rs.starts ∧ done.length + rs'.count ≤ rs.count ∧ (upd H4 l' (.lst (xs' ++ zs))) l = some (.lst ss) ∧ StsAt (upd H4 l' (.lst (xs' ++ zs))) done ss ∧ Same H (upd H4 l' (.lst (xs' ++ zs))))) E0 := by
        intro pq H3 s3 hpq
        rw [eB hn]
        refine ⟨pq, _, A'.app B, rfl, hpq, RsIn.app ((hB.same s2).same s3) ((hA.same s2).same s3), Rs.app_ok ok'.2.2.2.1 ok'.2.2.1, by rw [Rs.app_count]; omega, fun l4 ss4 H4 s4 nl4 hl4 hs4 => ?_⟩
        have hl4' := s4 _ _ (s3 _ _ hl2)
        have le4 := Rs.starts_le (A'.app B)
        rw [Rs.app_count] at le4
        rw [Rs.app_starts] at hs4 le4
        rw [List.length_append] at le4
        have hle : ss4.length = (A'.starts ++ B.starts).length := hs4.1
        rw [List.length_append] at hle
        refine ⟨l, l4, ss, ss4, rfl, rfl, hl4', hl4, by omega, ?_⟩
        have s34 := s2.trans (s3.trans s4)
        refine ⟨t, done ++ (A'.starts ++ B.starts), ss ++ ss4, _, rfl, RsIn.upd_lst hl4' (htl.same s34), Rs.ok_tl ok', ?_, ?_, upd_same, ((hst.same s34).upd_lst hl4').app (hs4.upd_lst hl4'), ?_⟩
        · rw [List.append_assoc]; exact hd'
        · rw [List.length_append, List.length_append]
          have : (Rs.iff e A' B t).tl.count = t.count := rfl
          omega
        · intro x o z
          rw [upd_ne (ne_of_none z hl)]
          exact s34 _ _ (s1 _ _ z)
      refine ⟨_, rfl, a, _, 2, _, rfl, rfl, SqT.of (s2 _ _ ha), atI_nat (j := 2) rfl, _, rfl, a, _, 3, _, rfl, rfl, SqT.of (s2 _ _ ha), atI_nat (j := 3) rfl, ?_⟩
      refine ⟨pA, pB, xA, xB, rfl, rfl, SqT.of (s2 _ _ hpA), SqT.of (s2 _ _ hpB), by omega, fun z => ?_, fun _ z => ?_, fun _ _ pq hpq => ?_⟩
      · exact goOn pB H2 (Same.refl H2) (by rw [z]; exact s2 _ _ hpB)
      · exact goOn pA H2 (Same.refl H2) (by rw [z, List.append_nil]; exact s2 _ _ hpA)
      · exact goOn pq _ (same_new hpq _) upd_same
  · rintro σ H1 ⟨rs', done, ss, y, rfl, hR', ok', hd', hc', hl1, hst, s1⟩
    rw [List.drop_length] at hR'
    have z : rs' = .nil := by
      cases rs' with
      | nil => rfl
      | put _ _ _ => obtain ⟨_, _, _, e, _⟩ := hR'; cases e
      | go _ _ _ _ _ => obtain ⟨_, _, _, _, e, _⟩ := hR'; cases e
      | wait _ _ _ _ => obtain ⟨_, _, _, e, _⟩ := hR'; cases e
      | iff _ _ _ _ => obtain ⟨_, _, _, _, _, _, _, e, _⟩ := hR'; cases e
      | give _ _ _ => obtain ⟨_, _, _, e, _⟩ := hR'; cases e
    subst z
    have e : done = rs.starts := by rw [← hd']; exact (List.append_nil done).symm
    refine ⟨_, rfl, q l ss H1 s1 hl hl1 (e ▸ hst)⟩
end
end SH

set_option Elab.async false
set_option linter.all false
set_option maxRecDepth 100000
namespace SH
open PySem L2
def spChkStarts : Sp := fun vs H Q _ => ∃ (l : Addr) (us : List V) (Ws : List Wk), vs = [.ref l] ∧ H l = some (.lst us) ∧ WksIn H Ws us ∧ WksOk Ws ∧ ∀ H', Same H H' → Q .non H'
def spBookInit (C : Addr) : Sp := fun vs H Q _ => ∃ (x dx l : Addr) (us : List V) (Ws : List Wk), vs = [.ref x, .ref l] ∧ H x = some (.ins C dx []) ∧ H l = some (.lst us) ∧ WksIn H Ws us ∧ WksOk Ws ∧
  ∀ (p : Addr) (H' : Hp), (∀ b o, H b = some o → b ≠ x → H' b = some o) → H p = none → H' p = some (.tup us) → H' x = some (.ins C dx [("works", .ref p)]) → Q .non H'
/-- what the module says of Book -/
structure BkT (K : PySem.W.Frag) (mg : Str → Option Value) (C : Addr) : Prop where
  cl : Cls K C
  nW : PySem.W.findIn K (.ref C) "works" = some none
  mgC : mg "Book" = some (.ref C)
/-- a book of these works -/
def BkIn (H : Hp) (C x : Addr) (Ws : List Wk) : Prop := ∃ (dx p : Addr) (us : List V), H x = some (.ins C dx [("works", .ref p)]) ∧ H p = some (.tup us) ∧ WksIn H Ws us
theorem BkIn.same {H H' : Hp} {C x : Addr} {Ws : List Wk} (h : Same H H') : BkIn H C x Ws → BkIn H' C x Ws
  | ⟨dx, p, us, k1, k2, q⟩ => ⟨dx, p, us, h _ _ k1, h _ _ k2, q.same h⟩
/-- the dict of how many names each work is handed -/
def HandAt (H : Hp) (D : Addr) (Ws : List Wk) : Prop := ∃ kvs : List (Key × V), H D = some (.dK kvs) ∧ ∀ (i : Nat) (W : Wk), Ws[i]? = some W → valV kvs (Sum.inr W.name) = some (.int (W.names.length : Nat))
theorem HandAt.same {H H' : Hp} {D : Addr} {Ws : List Wk} (h : Same H H') : HandAt H D Ws → HandAt H' D Ws
  | ⟨kvs, a, b⟩ => ⟨kvs, h _ _ a, b⟩
def spHanded : Sp := fun vs H Q _ => ∃ (l : Addr) (us : List V) (Ws : List Wk), vs = [.ref l] ∧ H l = some (.lst us) ∧ WksIn H Ws us ∧ WksOk Ws ∧ ∀ D H', Same H H' → H D = none → HandAt H' D Ws → Q (.ref D) H'
def spChkStart : Sp := fun vs H Q _ => ∃ (u : V) (D : Addr) (Ws : List Wk) (st : Str × Nat), vs = [u, .ref D] ∧ HandAt H D Ws ∧ StAt H st u ∧ (∃ W' ∈ Ws, W'.name = st.1 ∧ W'.names.length = st.2) ∧ Q .non H
section
variable {P : Program} {w : World} {K : PySem.W.Frag} {mg : Str → Option Value} {base : Heap}
theorem ok_handed {f : Addr} {fd : FuncData} (F : Fun K "handed_counts" "handed_counts" sHanded f fd) (T : Bi mg) : FnOk P w K mg base CX0 1 f fd ["works"] spHanded := by
  refine F.ok scHanded (fun vs H Q E h => ?_) (fun cdv A outer s H vs Q E hr h => ?_)
  · obtain ⟨l, us, Ws, rfl, _⟩ := h
    rfl
  obtain ⟨l, us, Ws, rfl, hl, hW, ok, q⟩ := h
  have h12 := ok.few
  refine ⟨_, (pss_one (ps_ret (pe_dc (own := [("work", 1)]) (g := gName 1) (tt := tYes) (by rfl) scHanded.nd (pi_list (pv 0)) (blkOk_by (own := [("work", 1)]) (N := ["works", "work"]) (sc := defScope sHanded) (by decide +kernel)) (fun _ _ _ _ _ => pg_name (i := 1) scHanded.nd rfl (Or.inl rfl)) (fun _ _ _ _ _ => pts_nil) (fun _ _ _ _ _ => (pe_ix (ix_tupK K) (pv 1) pe_int (fun _ _ => rfl))) (fun _ _ _ _ _ => (pe_callB (call_len_seqK K) (by rfl) T.len (by decide +kernel) (pa_cons (pe_ix (ix_tupK K) (pv 1) pe_int (fun _ _ => rfl)) pa_nil)))))), ?_⟩
  have hs : sizeLine = 16777216 := by decide
  refine ⟨_, rfl, l, rfl, ⟨_, SqL.of hl⟩, ?_⟩
  intro D hD
  refine dc_list (K := K) (a := l) (xs := us) (fun j H' => ∃ kvs : List (Key × V), H' D = some (.dK kvs) ∧ kvs.length ≤ j ∧ (∀ (i : Nat) (W : Wk), i < j → Ws[i]? = some W → valV kvs (Sum.inr W.name) = some (.int (W.names.length : Nat))) ∧ Same H H') ⟨[], upd_same, Nat.le_refl _, fun i W hi _ => absurd hi (Nat.not_lt_zero _), same_new hD _⟩ (fun j H' _ ⟨_, _, _, _, s'⟩ => SqL.of (s' _ _ hl)) ?_ ?_
  · rintro j v H2 hv ⟨kvs, hD2, hk, hval, s2⟩
    obtain ⟨W, hWi, hin⟩ := hW.2 j v hv
    have hj : j < Ws.length := (List.getElem?_eq_some_iff.mp hWi).1
    obtain ⟨a, pn, pr, xs, rfl, ha, hpn, _⟩ := hin.same s2
    refine ⟨rfl, ?_⟩
    refine ⟨_, rfl, a, _, 1, _, rfl, rfl, SqT.of ha, atI_nat (j := 1) rfl, _, rfl, a, _, 2, _, rfl, rfl, SqT.of ha, atI_nat (j := 2) rfl, pn, _, rfl, .inr (SqT.of hpn), kvs, Sum.inr W.name, rfl, hD2, by omega, ?_⟩
    refine ⟨_, upd_same, Nat.le_trans (DSub.putK_len _ _ _) (by omega), fun i W' hi hWi' => ?_, ?_⟩
    · rw [valV_put]
      by_cases e : W'.name = W.name
      · have e1 : (Ws.map Wk.name)[i]? = some W'.name := by rw [List.getElem?_map, hWi']; rfl
        have e2 : (Ws.map Wk.name)[j]? = some W.name := by rw [List.getElem?_map, hWi]; rfl
        have ij : i = j := nd_ix ok.nd (e ▸ e1) e2
        subst ij
        have : W' = W := Option.some.inj (hWi'.symm.trans hWi)
        subst this
        rw [if_pos rfl, List.length_map]
      · rw [if_neg (fun z => e (Sum.inr.inj z))]
        have hne : i ≠ j := fun z => by
          subst z
          exact e (congrArg Wk.name (Option.some.inj (hWi'.symm.trans hWi)))
        exact hval i W' (by omega) hWi'
    · intro b o z
      rw [upd_ne (ne_of_none z hD)]
      exact s2 _ _ z
  · rintro H2 ⟨kvs, hD2, hk, hval, s2⟩
    exact q D H2 s2 hD ⟨kvs, hD2, fun i W e => hval i W (by rw [hW.1]; exact (List.getElem?_eq_some_iff.mp e).1) e⟩
theorem ok_chkStart {f : Addr} {fd : FuncData} (F : Fun K "check_start" "check_start" sChkStart f fd) (T : Bi mg) : FnOk P w K mg base CX0 1 f fd ["start", "handed"] spChkStart := by
  refine F.ok scChkStart (fun vs H Q E h => ?_) (fun cdv A outer s H vs Q E hr h => ?_)
  · obtain ⟨u, D, Ws, st, rfl, _⟩ := h
    rfl
  obtain ⟨u, D, Ws, st, rfl, ⟨kvs, hD5, hval⟩, ⟨b, wd, x, p, ws, rfl, hb, hp, hlen⟩, ⟨W', hW', en, el⟩, q⟩ := h
  refine ⟨_, (pss_cons (ps_if (pt_cmp (pc_dnotin (hu_of hr) (pe_ix ix_tup (pv 0) pe_int (fun _ _ => rfl)) (pv 1)))
      (pss_one ps_never)
      pss_nil)
    (pss_one (ps_if (pt_cmpR op_ne (pe_callB call_len_seq (by rfl) T.len (by decide +kernel) (pa_cons (pe_ix ix_tup (pv 0) pe_int (fun _ _ => rfl)) pa_nil)) (pe_dget (hu_of hr) (pv 1) (pe_ix ix_tup (pv 0) pe_int (fun _ _ => rfl)) (fun _ _ => rfl)) (nomark _))
      (pss_one ps_never)
      pss_nil))), ?_⟩
  obtain ⟨k, hk', ek⟩ := List.mem_iff_getElem.mp hW'
  have hv' := hval k W' (by rw [List.getElem?_eq_getElem hk', ek])
  rw [en, el] at hv'
  have gt : DGet H D (.str st.1) (some (.int (st.2 : Nat))) := by
    have := DGet.k (k := Sum.inr st.1) hD5
    rwa [hv'] at this
  refine ⟨_, rfl, b, _, 2, _, rfl, rfl, SqT.of hb, atI_nat (j := 2) rfl, _, rfl, D, _, rfl, gt, false, rfl, ?_⟩
  refine ⟨_, rfl, b, _, 3, _, rfl, rfl, SqT.of hb, atI_nat (j := 3) rfl, p, _, rfl, .inr (SqT.of hp), ?_⟩
  refine ⟨_, rfl, _, rfl, b, _, 2, _, rfl, rfl, SqT.of hb, atI_nat (j := 2) rfl, D, _, rfl, gt, rfl, _, rfl, ?_⟩
  rw [hlen]
  refine iteNS rfl ?_
  exact q
theorem ok_chkStarts {f c d e : Addr} {fd cd dd ed : FuncData} (F : Fun K "check_starts" "check_starts" sChkStarts f fd) (SI : Fk P w K mg base 4 "starts_in" c cd ["rows"] (spStartsIn 3)) (HC : Fk P w K mg base 1 "handed_counts" d dd ["works"] spHanded) (CH : Fk P w K mg base 1 "check_start" e ed ["start", "handed"] spChkStart) (T : Bi mg) : FnOk P w K mg base CX0 5 f fd ["works"] spChkStarts := by
  refine F.ok scChkStarts (fun vs H Q E h => ?_) (fun cdv A outer s H vs Q E hr h => ?_)
  · obtain ⟨l, us, Ws, rfl, _⟩ := h
    rfl
  obtain ⟨l, us, Ws, rfl, hl, hW, ok, q⟩ := h
  have h12 := ok.few
  refine ⟨_, (pss_cons (ps_set (i := 1) scChkStarts.nd rfl (Or.inl rfl) (pe_call HC.G (hr.mono (by omega)) (by rfl) HC.m HC.k HC.b .nil pass0 (pa_cons (pv 0) pa_nil)))
    (pss_one (ps_for PassesOwn.never rfl (pi_list (pv 0)) (pg_name (i := 2) scChkStarts.nd rfl (.inl rfl))
      (pss_one (ps_for PassesOwn.never rfl (pi_list (pe_call SI.G (hr.mono (by omega)) (by rfl) SI.m SI.k SI.b .nil pass0 (pa_cons (pe_ix ix_tup (pv 2) pe_int (fun _ _ => rfl)) pa_nil))) (pg_name (i := 3) scChkStarts.nd rfl (.inl rfl))
      (pss_one (ps_expr (pe_call CH.G (hr.mono (by omega)) (by rfl) CH.m CH.k CH.b .nil pass0 (pa_cons (pv 3) (pa_cons (pv 1) pa_nil)))))))))), ?_⟩
  refine ⟨_, rfl, l, us, Ws, rfl, hl, hW, ok, fun D H2 s2 hD hH => ?_⟩
  refine ⟨_, rfl, l, rfl, ⟨_, SqL.of (s2 _ _ hl)⟩, ?_⟩
  refine for_list (K := K) (a := l) (xs := us) (fun i σ H' => ∃ y3 y4 : Option V, σ = [some (.ref l), some (.ref D), y3, y4] ∧ Same H2 H') ⟨none, none, rfl, Same.refl _⟩ (fun i σ H' _ ⟨_, _, _, s'⟩ => SqL.of (s' _ _ (s2 _ _ hl))) ?_ ?_
  · rintro i v σ H3 hv ⟨y3, y4, rfl, s3⟩
    obtain ⟨W, hWi, hin⟩ := hW.2 i v hv
    have hWm := List.mem_of_getElem? hWi
    obtain ⟨a, pn, pr, xs, rfl, ha, hpn, hpr, hR⟩ := hin.same (s2.trans s3)
    have wok := ok.each W hWm
    have c40 := wok.count
    refine ⟨_, rfl, a, _, 4, _, rfl, rfl, SqT.of ha, atI_nat (j := 4) rfl, pr, xs, W.rows, rfl, hpr, hR, wok.rows, by omega, fun l4 ss H4 s4 nl4 hl4 hst => ?_⟩
    refine ⟨l4, rfl, ⟨_, SqL.of hl4⟩, ?_⟩
    refine for_list (K := K) (a := l4) (xs := ss) (fun i σ H' => ∃ y4 : Option V, σ = [some (.ref l), some (.ref D), some (.ref a), y4] ∧ H' = H4) ⟨y4, rfl, rfl⟩ (fun i σ H' _ ⟨_, _, e⟩ => by rw [e]; exact SqL.of hl4) ?_ ?_
    · rintro j u σ H5 hu ⟨y4, rfl, rfl⟩
      have hj : j < W.rows.starts.length := by
        rw [← hst.1]
        exact (List.getElem?_eq_some_iff.mp hu).1
      obtain ⟨st, hsj⟩ : ∃ st, W.rows.starts[j]? = some st := ⟨_, List.getElem?_eq_getElem hj⟩
      exact ⟨_, rfl, _, rfl, u, D, Ws, st, rfl, hH.same (s3.trans s4), hst.2 j st u hsj hu, ok.starts W hWm st (List.mem_of_getElem? hsj), _, rfl, rfl⟩
    · rintro σ H5 ⟨y4, rfl, rfl⟩
      exact ⟨_, _, rfl, s3.trans s4⟩
  · rintro σ H3 ⟨y3, y4, rfl, s3⟩
    exact q H3 (s2.trans s3)
theorem ok_bookInit {f c d C : Addr} {fd cd dd : FuncData} (F : Fun K "__init__" "Book.__init__" sBookInit f fd) (B : BkT K mg C) (CK : Fk P w K mg base 25 "check_works" c cd ["thing"] spChkWorks) (CS : Fk P w K mg base 5 "check_starts" d dd ["works"] spChkStarts) (mt : mg "tuple" = none) : FnOk P w K mg base CX0 26 f fd ["self", "works"] (spBookInit C) := by
  refine F.ok scBookInit (fun vs H Q E h => ?_) (fun cdv A outer s H vs Q E hr h => ?_)
  · obtain ⟨x, dx, l, us, Ws, rfl, _⟩ := h
    rfl
  obtain ⟨x, dx, l, us, Ws, rfl, hx, hl, hW, ok, q⟩ := h
  refine ⟨_, (pss_cons (ps_expr (pe_call CK.G (hr.mono (by omega)) (by rfl) CK.m CK.k CK.b .nil pass0 (pa_cons (pv 1) pa_nil)))
    (pss_cons (ps_expr (pe_call CS.G (hr.mono (by omega)) (by rfl) CS.m CS.k CS.b .nil pass0 (pa_cons (pv 1) pa_nil)))
    (pss_one (ps_fld (pv 0) (pe_callTy call_tuple_of (by rfl) mt (by decide +kernel) (pa_cons (pv 1) pa_nil)) rfl)))), ?_⟩
  refine ⟨_, rfl, l, us, Ws, rfl, hl, hW, ok, fun H1 s1 => ?_⟩
  refine ⟨_, rfl, l, us, Ws, rfl, s1 _ _ hl, hW.same s1, ok, fun H2 s2 => ?_⟩
  have s12 := s1.trans s2
  refine ⟨_, rfl, l, us, rfl, .inl ⟨SqL.of (s12 _ _ hl), fun p hp => ?_⟩⟩
  have hx2 : (upd H2 p (.tup us)) x = some (.ins C dx []) := (same_new hp _) _ _ (s12 _ _ hx)
  refine ⟨_, rfl, x, C, dx, _, rfl, hx2, B.cl, B.nW, (by show 0 < 1000; decide), ?_⟩
  have npx : p ≠ x := fun z => by rw [z, s12 _ _ hx] at hp; cases hp
  refine q p _ (fun b o e nb => ?_) (s12.free hp) (by rw [upd_ne npx, upd_same]) upd_same
  rw [upd_ne nb]
  exact (same_new hp _) _ _ (s12 _ _ e)
end
end SH

set_option Elab.async false
set_option linter.all false
set_option maxRecDepth 100000
namespace SH
open PySem L2
abbrev sRow : Stmt := topS 71
abbrev sRows : Stmt := topS 72
theorem scRow : FnScope ["_law_bag_here", "_law_state", "_law_nested", "_law_names_here", "_law_titles", "_law_one", "_law_other", "_law_way", "_law_title", "_law_many", "_law_trees", "_law_tree_here", "_law_k"] ["_law_bag_here", "_law_state", "_law_nested"] (defScope sRow) := ⟨rfl, rfl, rfl, by decide +kernel, rfl, by decide +kernel, by decide +kernel⟩
theorem scRows : FnScope ["_law_bag_here", "_law_state", "_law_nested", "_law_many", "_law_k"] ["_law_bag_here", "_law_state", "_law_nested"] (defScope sRows) := ⟨rfl, rfl, rfl, by decide +kernel, rfl, by decide +kernel, by decide +kernel⟩
/-! ### tuples stay -/
def KeepT (H H' : Hp) : Prop := ∀ a xs, H a = some (.tup xs) → H' a = some (.tup xs)
theorem KeepT.of {H H' : Hp} (h : Same H H') : KeepT H H' := fun a xs e => h a _ e
theorem KeepT.trans {H H1 H2 : Hp} (h : KeepT H H1) (k : KeepT H1 H2) : KeepT H H2 := fun a xs e => k a xs (h a xs e)
theorem TrIn.keep {H H' : Hp} (h : KeepT H H') : ∀ {e : Ex} {v : V}, TrIn H e v → TrIn H' e v
  | .num n, v, ⟨a, e, k⟩ => ⟨a, e, h _ _ k⟩
  | .nam n, v, ⟨a, e, k⟩ => ⟨a, e, h _ _ k⟩
  | .op g l r, v, ⟨a, x, y, e, k, p, q⟩ => ⟨a, x, y, e, h _ _ k, TrIn.keep h p, TrIn.keep h q⟩
theorem TrsIn.keep {H H' : Hp} (h : KeepT H H') : ∀ {es : List Ex} {vs : List V}, TrsIn H es vs → TrsIn H' es vs
  | [], _, q => q
  | _ :: _, _, ⟨v, r, e, t, q⟩ => ⟨v, r, e, t.keep h, TrsIn.keep h q⟩
theorem OptIn.keep {H H' : Hp} (h : KeepT H H') : ∀ {e : Option Ex} {v : V}, OptIn H e v → OptIn H' e v
  | none, _, q => q
  | some _, _, q => TrIn.keep h q
theorem RsIn.keep {H H' : Hp} (h : KeepT H H') : ∀ {r : Rs} {vs : List V}, RsIn H r vs → RsIn H' r vs
  | .nil, _, q => q
  | .put _ _ _, _, ⟨a, v, r, e, k, t, q⟩ => ⟨a, v, r, e, h _ _ k, t.keep h, RsIn.keep h q⟩
  | .go _ _ _ _ _, _, ⟨a, p, ws, r, e, k, k2, t, q⟩ => ⟨a, p, ws, r, e, h _ _ k, h _ _ k2, t.keep h, RsIn.keep h q⟩
  | .wait _ _ _ _, _, ⟨a, v, r, e, k, t, q⟩ => ⟨a, v, r, e, h _ _ k, t.keep h, RsIn.keep h q⟩
  | .iff _ _ _ _, _, ⟨a, v, p, xs, p', ys, r, e, k, t, k1, q1, k2, q2, q⟩ => ⟨a, v, p, xs, p', ys, r, e, h _ _ k, t.keep h, h _ _ k1, RsIn.keep h q1, h _ _ k2, RsIn.keep h q2, RsIn.keep h q⟩
  | .give _ _ _, _, ⟨a, v, r, e, k, t, q⟩ => ⟨a, v, r, e, h _ _ k, t.keep h, RsIn.keep h q⟩
theorem WkIn.keep {H H' : Hp} {W : Wk} {v : V} (h : KeepT H H') : WkIn H W v → WkIn H' W v
  | ⟨a, pn, pr, xs, e, k1, k2, k3, q⟩ => ⟨a, pn, pr, xs, e, h _ _ k1, h _ _ k2, h _ _ k3, q.keep h⟩
theorem WksIn.keep {H H' : Hp} {Ws : List Wk} {vs : List V} (h : KeepT H H') (q : WksIn H Ws vs) : WksIn H' Ws vs := ⟨q.1, fun i v e => by
  obtain ⟨W, a, b⟩ := q.2 i v e
  exact ⟨W, a, b.keep h⟩⟩
/-- all but what stands at b and d -/
def But2 (b d : Addr) (H H' : Hp) : Prop := ∀ a o, a ≠ b → a ≠ d → H a = some o → H' a = some o
theorem But2.of {b d : Addr} {H H' : Hp} (h : Same H H') : But2 b d H H' := fun a o _ _ e => h a o e
theorem But2.but {b d : Addr} {H H' : Hp} (h : But b H H') : But2 b d H H' := fun a o n _ e => h a o n e
theorem But2.trans {b d : Addr} {H H1 H2 : Hp} (h : But2 b d H H1) (k : But2 b d H1 H2) : But2 b d H H2 := fun a o n m e => k a o n m (h a o n m e)
theorem KeepT.but {b : Addr} {ys : List V} {H H' : Hp} (hb : H b = some (.lst ys)) (h : But b H H') : KeepT H H' := fun a xs e => h a _ (lst_ne e hb) e
theorem KeepT.but2 {b d : Addr} {ys : List V} {kvs : List (Key × V)} {H H' : Hp} (hb : H b = some (.lst ys)) (hd : H d = some (.dK kvs)) (h : But2 b d H H') : KeepT H H' := fun a xs e => h a _ (lst_ne e hb) (fun z => by rw [z, hd] at e; cases e) e
theorem KeepT.upd {H : Hp} {b : Addr} {o o' : HO} (hb : H b = some o) (ho : ∀ xs, o ≠ .tup xs) : KeepT H (upd H b o') := fun a xs e => by
  rw [upd_ne (fun z => by rw [z, hb] at e; exact ho xs (Option.some.inj e))]
  exact e
/-! ### what rows are drawn by -/
def TisIn (H : Hp) (ti : List (Str × Nat)) (vs : List V) : Prop := vs.length = ti.length ∧ ∀ (i : Nat) (v : V), vs[i]? = some v → ∃ t, ti[i]? = some t ∧ ∃ p, v = .ref p ∧ H p = some (.tup [.str t.1, .int (t.2 : Nat)])
structure RC (H : Hp) (b sd an at_ : Addr) (nm : List Str) (ti : List (Str × Nat)) : Prop where
  names : H an = some (.lst (nm.map V.str))
  titles : ∃ tvs, H at_ = some (.lst tvs) ∧ TisIn H ti tvs
  nb : an ≠ b
  tb : at_ ≠ b
  nm1 : 1 ≤ nm.length
  nm2 : nm.length ≤ 1000
  nmk : ∀ s ∈ nm, NmOk s
  ti1 : 1 ≤ ti.length
  ti2 : ti.length ≤ 1000
  tik : ∀ t ∈ ti, NmOk t.1 ∧ t.2 ≤ 4
def stK (an at_ : Addr) (L : Nat) : List (Key × V) := [(Sum.inr "names", .ref an), (Sum.inr "titles", .ref at_), (Sum.inr "left", .int (L : Nat))]
def StL (H : Hp) (sd an at_ : Addr) (L : Nat) : Prop := H sd = some (.dK (stK an at_ L))
theorem k_nl : ("names" : Str) ≠ "left" := by decide +kernel
theorem k_tl : ("titles" : Str) ≠ "left" := by decide +kernel
theorem k_nt : ("names" : Str) ≠ "titles" := by decide +kernel
theorem st_names (an at_ : Addr) (L : Nat) : valV (stK an at_ L) (Sum.inr "names") = some (.ref an) := valV_pos rfl
theorem st_titles (an at_ : Addr) (L : Nat) : valV (stK an at_ L) (Sum.inr "titles") = some (.ref at_) := by
  unfold stK
  rw [valV_neg (fun z => k_nt (Sum.inr.inj z))]
  exact valV_pos rfl
theorem st_left (an at_ : Addr) (L : Nat) : valV (stK an at_ L) (Sum.inr "left") = some (.int (L : Nat)) := by
  unfold stK
  have h1 : ¬ ((Sum.inr "names" : Key) = (Sum.inr "left" : Key)) := by
    intro z
    exact k_nl (Sum.inr.inj z)
  have h2 : ¬ ((Sum.inr "titles" : Key) = (Sum.inr "left" : Key)) := by
    intro z
    exact k_tl (Sum.inr.inj z)
  rw [valV_neg h1, valV_neg h2]
  exact valV_pos rfl
theorem st_put (an at_ : Addr) (L M : Nat) : putK (stK an at_ L) (Sum.inr "left") (.int (M : Nat)) = stK an at_ M := by
  unfold putK stK
  have h1 : ¬ ((Sum.inr "names" : Key) = (Sum.inr "left" : Key)) := by
    intro z
    exact k_nl (Sum.inr.inj z)
  have h2 : ¬ ((Sum.inr "titles" : Key) = (Sum.inr "left" : Key)) := by
    intro z
    exact k_tl (Sum.inr.inj z)
  simp [h1, h2, k_nl, k_tl]
theorem StL.get {H : Hp} {sd an at_ : Addr} {L : Nat} (h : StL H sd an at_ L) : DGet H sd (.str "names") (some (.ref an)) ∧ DGet H sd (.str "titles") (some (.ref at_)) ∧ DGet H sd (.str "left") (some (.int (L : Nat))) := by
  have k := fun x : Str => DGet.k (k := Sum.inr x) (show H sd = some (.dK (stK an at_ L)) from h)
  have k1 := k "names"
  have k2 := k "titles"
  have k3 := k "left"
  rw [st_names] at k1
  rw [st_titles] at k2
  rw [st_left] at k3
  exact ⟨k1, k2, k3⟩
theorem StL.same {H H' : Hp} {sd an at_ : Addr} {L : Nat} (s : Same H H') (h : StL H sd an at_ L) : StL H' sd an at_ L := s _ _ h
theorem StL.but {H H' : Hp} {b sd an at_ : Addr} {L : Nat} {ys : List V} (hb : H b = some (.lst ys)) (u : But b H H') (h : StL H sd an at_ L) : StL H' sd an at_ L := u _ _ (fun z => by unfold StL at h; rw [z, hb] at h; cases h) h
theorem RC.move {H H' : Hp} {b sd an at_ : Addr} {nm : List Str} {ti : List (Str × Nat)} {L : Nat} (r : RC H b sd an at_ nm ti) (hs : StL H sd an at_ L) (hb : ∃ ys, H b = some (.lst ys)) (u : But2 b sd H H') : RC H' b sd an at_ nm ti := by
  obtain ⟨ys, hb⟩ := hb
  have kt : KeepT H H' := .but2 hb hs u
  have ns : ∀ (a : Addr) (xs : List V), H a = some (.lst xs) → a ≠ sd := fun a xs e z => by
    unfold StL at hs
    rw [z, hs] at e
    cases e
  obtain ⟨tvs, h1, h2⟩ := r.titles
  refine ⟨u _ _ r.nb (ns _ _ r.names) r.names, ⟨tvs, u _ _ r.tb (ns _ _ h1) h1, h2.1, fun i v e => ?_⟩, r.nb, r.tb, r.nm1, r.nm2, r.nmk, r.ti1, r.ti2, r.tik⟩
  obtain ⟨t, e1, p, e2, e3⟩ := h2.2 i v e
  exact ⟨t, e1, p, e2, kt _ _ e3⟩
def mm : Nat → Nat
  | 0 => 2
  | 1 => 2
  | 2 => 3
  | _ => 11
def rcd : Nat → Nat
  | 0 => 800
  | d + 1 => 800 + 2 * (1 + mm d * rcd d)
theorem rcd_ge (d : Nat) : 800 ≤ rcd d := by
  cases d with
  | zero => exact Nat.le_refl _
  | succ d => show 800 ≤ 800 + 2 * (1 + mm d * rcd d); omega
def spRow (d : Nat) : Sp := fun vs H Q _ => ∃ (b sd an at_ : Addr) (nm : List Str) (ti : List (Str × Nat)) (L k : Nat), vs = [.ref b, .ref sd, .int ((3 - d : Nat) : Int)] ∧ d ≤ 3 ∧ RC H b sd an at_ nm ti ∧ StL H sd an at_ L ∧ Bag H b (k + rcd d) ∧
  ∀ (v : V) (rs : Rs) (H' : Hp), RsIn H' rs [v] → Rs.ok d rs → rs.count ≤ L + 1 → (∀ st ∈ rs.starts, st ∈ ti) → StL H' sd an at_ (L + 1 - rs.count) → Bag H' b k → But2 b sd H H' → Q v H'
def spRows (d : Nat) : Sp := fun vs H Q _ => ∃ (b sd an at_ : Addr) (nm : List Str) (ti : List (Str × Nat)) (L k : Nat), vs = [.ref b, .ref sd, .int ((3 - d : Nat) : Int)] ∧ d ≤ 3 ∧ RC H b sd an at_ nm ti ∧ StL H sd an at_ L ∧ Bag H b (k + (1 + mm d * rcd d)) ∧
  ∀ (p : Addr) (xs : List V) (rs : Rs) (H' : Hp), H' p = some (.tup xs) → RsIn H' rs xs → Rs.ok d rs → rs.count ≤ L → (∀ st ∈ rs.starts, st ∈ ti) → StL H' sd an at_ (L - rs.count) → Bag H' b k → But2 b sd H H' → Q (.ref p) H'
theorem Ex.of_fine6 {nm : List Str} (hn : ∀ s ∈ nm, NmOk s) {n : Nat} (h : n ≤ 6) {e : Ex} (o : Ex.of nm n e) : Ex.fine 6 e := Ex.fine_up h (Ex.of_fine hn o)
section
variable {P : Program} {w : World} {K : PySem.W.Frag} {mg : Str → Option Value} {base : Heap}
set_option maxHeartbeats 4000000 in
theorem ok_row {d : Nat} {f t u r : Addr} {fd td ud rd : FuncData} (F : Fun K "_law_row" "_law_row" sRow f fd) (TK : Fk P w K mg base 1 "_law_take" t td ["_law_bag_here", "_law_many"] spTake) (TR : Fk P w K mg base 8 "_law_tree" u ud ["_law_bag_here", "_law_names_here", "_law_deep"] (spTrees 6))
    (RS : 1 ≤ d → FnOk P w K mg base CX0 (8 + 2 * d) r rd ["_law_bag_here", "_law_state", "_law_nested"] (spRows (d - 1))) (mR : mg "_law_rows" = some (.ref r)) (kR : PySem.W.keepIn K (.ref r) = true) (bR : Binds K rd ["_law_bag_here", "_law_state", "_law_nested"] []) (T : Bi mg) (mt : mg "tuple" = none) :
    FnOk P w K mg base CX0 (9 + 2 * d) f fd ["_law_bag_here", "_law_state", "_law_nested"] (spRow d) := by
  have lvl : 9 + 2 * d = (8 + 2 * d) + 1 := by omega
  rw [lvl]
  refine F.ok scRow (fun vs H Q E h => ?_) (fun cdv A outer s H vs Q E hr h => ?_)
  · obtain ⟨b, sd, an, at_, nm, ti, L, k, rfl, _⟩ := h
    rfl
  obtain ⟨b, sd, an, at_, nm, ti, L, k, rfl, d3, rc, hst, hB, q⟩ := h
  have BG : ∃ sp, FnOk P w K mg base CX0 (8 + 2 * d) r rd ["_law_bag_here", "_law_state", "_law_nested"] sp ∧ (1 ≤ d → sp = spRows (d - 1)) := by
    by_cases h1 : 1 ≤ d
    · exact ⟨_, RS h1, fun _ => rfl⟩
    · refine ⟨fun _ _ _ _ => False, ⟨fun _ _ _ _ h => h.elim, fun _ _ _ _ _ _ _ _ _ _ _ _ _ h => h.elim⟩, fun z => absurd z h1⟩
  obtain ⟨spB, GB, eB⟩ := BG
  have RW : Fk P w K mg base (8 + 2 * d) "_law_rows" r rd ["_law_bag_here", "_law_state", "_law_nested"] spB := ⟨GB, mR, kR, bR⟩
  refine ⟨_, (pss_cons (ps_asg (pe_tup (pa_cons (pe_dget (hu_of hr) (pv 1) pe_str (fun _ _ => rfl)) (pa_cons (pe_dget (hu_of hr) (pv 1) pe_str (fun _ _ => rfl)) pa_nil))) (pg_tup rfl (pgs_cons (pg_name (i := 3) scRow.nd rfl (.inr rfl)) (pgs_cons (pg_name (i := 4) scRow.nd rfl (.inl rfl)) pgs_nil))))
    (pss_cons (ps_asg (pe_lc (own := [("_law_k", 12)]) (g := gName 12) (tt := tYes) (by rfl) scRow.nd (pi_range1 (by rfl) T.range (pa_cons pe_int pa_nil)) (blkOk_by (own := [("_law_k", 12)]) (N := ["_law_bag_here", "_law_state", "_law_nested", "_law_names_here", "_law_titles", "_law_one", "_law_other", "_law_way", "_law_title", "_law_many", "_law_trees", "_law_tree_here", "_law_k"]) (sc := defScope sRow) (by decide +kernel)) (fun _ _ _ _ _ => pg_name (i := 12) scRow.nd rfl (Or.inl rfl)) (fun _ _ _ _ _ => pts_nil) (fun _ _ _ _ _ => (pe_ix (ix_listK K) (pv 3) (pe_call TK.G (hr.mono (by omega)) (by rfl) TK.m TK.k TK.b .nil pass0 (pa_cons (pv 0) (pa_cons (pe_callB (call_len_seqK K) (by rfl) T.len (by decide +kernel) (pa_cons (pv 3) pa_nil)) pa_nil))) (fun _ _ => rfl)))) (pg_unl rfl (pgs_cons (pg_name (i := 5) scRow.nd rfl (.inl rfl)) (pgs_cons (pg_name (i := 6) scRow.nd rfl (.inl rfl)) pgs_nil))))
    (pss_cons (ps_set (i := 7) scRow.nd rfl (Or.inl rfl) (pe_call TK.G (hr.mono (by omega)) (by rfl) TK.m TK.k TK.b .nil pass0 (pa_cons (pv 0) (pa_cons pe_int pa_nil))))
    (pss_cons (ps_if (pt_cmpR op_lt (pv 7) pe_int (nomark _))
      (pss_cons (ps_asg (pe_ix ix_list (pv 4) (pe_call TK.G (hr.mono (by omega)) (by rfl) TK.m TK.k TK.b .nil pass0 (pa_cons (pv 0) (pa_cons (pe_callB call_len_seq (by rfl) T.len (by decide +kernel) (pa_cons (pv 4) pa_nil)) pa_nil))) (fun _ _ => rfl)) (pg_tup rfl (pgs_cons (pg_name (i := 8) scRow.nd rfl (.inl rfl)) (pgs_cons (pg_name (i := 9) scRow.nd rfl (.inl rfl)) pgs_nil))))
    (pss_cons (ps_setLc (i := 10) (own := [("_law_k", 12)]) (g := gName 12) (tt := tYes) (by rfl) scRow.nd rfl rfl (sw_true rfl rfl rfl (by decide +kernel)) (pi_range1 (by rfl) T.range (pa_cons (pv 9) pa_nil)) (blkOk_by (own := [("_law_k", 12)]) (N := ["_law_bag_here", "_law_state", "_law_nested", "_law_names_here", "_law_titles", "_law_one", "_law_other", "_law_way", "_law_title", "_law_many", "_law_trees", "_law_tree_here", "_law_k"]) (sc := defScope sRow) (by decide +kernel)) (fun _ _ _ _ _ => pg_name (i := 12) scRow.nd rfl (Or.inl rfl)) (fun _ _ _ _ _ => pts_nil) (fun _ _ _ _ _ => (pe_call TR.G (hr.mono (by omega)) (by rfl) TR.m TR.k TR.b .nil pass0 (pa_cons (pv 0) (pa_cons (pv 3) (pa_cons (pe_op op_add pe_int (pe_call TK.G (hr.mono (by omega)) (by rfl) TK.m TK.k TK.b .nil pass0 (pa_cons (pv 0) (pa_cons pe_int pa_nil)))) pa_nil))))))
    (pss_one (ps_ret (pe_tup (pa_cons (pe_ix ix_list (pe_lst (pa_cons pe_str (pa_cons pe_str (pa_cons pe_str pa_nil)))) (pv 7) (fun _ _ => rfl)) (pa_cons (pv 5) (pa_cons (pv 8) (pa_cons (pe_callTy call_tuple_of (by rfl) mt (by decide +kernel) (pa_cons (pv 10) pa_nil)) pa_nil)))))))))
      pss_nil)
    (pss_cons (ps_if (pt_cmpR op_eq (pv 7) pe_int (nomark _))
      (pss_one (ps_ret (pe_tup (pa_cons pe_str (pa_cons (pv 5) (pa_cons (pv 6) (pa_cons (pe_ix ix_list (pe_lst (pa_cons pe_non (pa_cons (pe_call TR.G (hr.mono (by omega)) (by rfl) TR.m TR.k TR.b .nil pass0 (pa_cons (pv 0) (pa_cons (pv 3) (pa_cons pe_int pa_nil)))) pa_nil))) (pe_call TK.G (hr.mono (by omega)) (by rfl) TK.m TK.k TK.b .nil pass0 (pa_cons (pv 0) (pa_cons pe_int pa_nil))) (fun _ _ => rfl)) pa_nil)))))))
      pss_nil)
    (C8.pss_cut (ps_if (PW.pt (pw_and (pt_cmpR op_eq (pv 7) pe_int (nomark _)) (pw_and1 (pt_cmpR op_lt (pv 2) pe_int (nomark _)))))
      (pss_cons (ps_set (i := 11) scRow.nd rfl (Or.inl rfl) (pe_call TR.G (hr.mono (by omega)) (by rfl) TR.m TR.k TR.b .nil pass0 (pa_cons (pv 0) (pa_cons (pv 3) (pa_cons pe_int pa_nil)))))
    (pss_one (ps_ret (pe_tup (pa_cons pe_str (pa_cons (pv 11) (pa_cons (pe_call RW.G hr (by rfl) RW.m RW.k RW.b .nil pass0 (pa_cons (pv 0) (pa_cons (pv 1) (pa_cons (pe_op op_add (pv 2) pe_int) pa_nil)))) (pa_cons (pe_call RW.G hr (by rfl) RW.m RW.k RW.b .nil pass0 (pa_cons (pv 0) (pa_cons (pv 1) (pa_cons (pe_op op_add (pv 2) pe_int) pa_nil)))) pa_nil))))))))
      pss_nil)
    (pss_cons (ps_if (pt_cmpR op_eq (pv 7) pe_int (nomark _))
      (pss_one (ps_ret (pe_tup (pa_cons (pe_ix ix_list (pe_lst (pa_cons pe_str (pa_cons pe_str pa_nil))) (pe_call TK.G (hr.mono (by omega)) (by rfl) TK.m TK.k TK.b .nil pass0 (pa_cons (pv 0) (pa_cons pe_int pa_nil))) (fun _ _ => rfl)) (pa_cons (pe_call TR.G (hr.mono (by omega)) (by rfl) TR.m TR.k TR.b .nil pass0 (pa_cons (pv 0) (pa_cons (pv 3) (pa_cons (pe_op op_add pe_int (pe_call TK.G (hr.mono (by omega)) (by rfl) TK.m TK.k TK.b .nil pass0 (pa_cons (pv 0) (pa_cons pe_int pa_nil)))) pa_nil)))) pa_nil)))))
      pss_nil)
    (pss_one (ps_ret (pe_tup (pa_cons pe_str (pa_cons (pv 5) (pa_cons (pe_call TR.G (hr.mono (by omega)) (by rfl) TR.m TR.k TR.b .nil pass0 (pa_cons (pv 0) (pa_cons (pv 3) (pa_cons (pe_op op_add pe_int (pe_call TK.G (hr.mono (by omega)) (by rfl) TK.m TK.k TK.b .nil pass0 (pa_cons (pv 0) (pa_cons pe_int pa_nil)))) pa_nil)))) pa_nil))))))))))))), ?_⟩
  have hs : sizeLine = 16777216 := by decide
  have hrc := rcd_ge d
  obtain ⟨g1, g2, g3⟩ := hst.get
  refine ⟨_, rfl, sd, _, rfl, g1, _, rfl, sd, _, rfl, g2, (by show 2 ≤ sizeLine; decide), fun t1 ht1 => ?_⟩
  have s1 := same_new ht1 (.tup [.ref an, .ref at_])
  refine ⟨t1, _, rfl, SqT.of upd_same, rfl, _, _, rfl, _, _, rfl, rfl, ?_⟩
  generalize upd H t1 (.tup [.ref an, .ref at_]) = H1 at s1
  have rc1 := rc.move hst hB.lst (.of s1)
  have st1 := hst.same s1
  have B1 := hB.same s1
  -- the two names
  refine ⟨2, rfl, by decide, by decide, ?_⟩
  intro D hD
  have nDb : D ≠ b := fun z => by obtain ⟨ys, hy⟩ := B1.lst; rw [z, hy] at hD; cases hD
  refine lc_range (lo := 0) (n := 2) (fun j H' => ∃ ss : List Str, H' D = some (.lst (ss.map V.str)) ∧ ss.length = j ∧ (∀ s ∈ ss, s ∈ nm) ∧ Bag H' b (k + rcd d - j) ∧ But b H1 H') ?_ ?_ ?_
  · exact ⟨[], upd_same, rfl, fun s h => (by cases h), (B1.same (same_new hD _)).less (by omega), But.new hD _⟩
  · rintro j H2 hj ⟨ss, hD2, hl, hin, B2, U2⟩
    refine ⟨rfl, ?_⟩
    have hn2 := U2 _ _ rc.nb rc1.names
    have hlm : (nm.map V.str).length = nm.length := List.length_map _
    have h1 := rc.nm1
    have h2 := rc.nm2
    refine ⟨_, rfl, _, rfl, _, rfl, an, _, rfl, .inl (SqL.of hn2), b, _, k + rcd d - j - 1, rfl, by rw [hlm]; omega, by rw [hlm]; omega, B2.less (by omega), fun d1 H3 a1 a2 B3 U3 => ?_⟩
    rw [hlm] at a2
    obtain ⟨x, ex, hx⟩ := menuS (ns := nm) a1 a2
    refine ⟨an, _, _, _, rfl, rfl, SqL.of (U3 _ _ rc.nb hn2), ex, ?_⟩
    refine ⟨_, U3 _ _ nDb hD2, by rw [List.length_map]; omega, ss ++ [x], ?_, by rw [List.length_append, hl]; rfl, ?_, ?_, ?_⟩
    · rw [upd_same, List.map_append]; rfl
    · intro s hs'
      rcases List.mem_append.mp hs' with h | h
      · exact hin s h
      · rw [List.mem_singleton.mp h]; exact hx
    · obtain ⟨x', y', z', e, rr⟩ := B3
      exact Bag.less ⟨x', y', z', by rw [upd_ne (Ne.symm nDb)]; exact e, rr⟩ (by omega)
    · intro a o na e
      rw [upd_ne (ne_of_none e hD)]
      exact U3 _ _ na (U2 _ _ na e)
  rintro H2 ⟨ss, hD2, hl, hin, B2, U2⟩
  obtain ⟨o1, o2, rfl⟩ : ∃ o1 o2, ss = [o1, o2] := by
    match ss, hl with
    | [a, b], _ => exact ⟨a, b, rfl⟩
  have ok1 := rc.nmk o1 (hin o1 (by simp))
  have ok2 := rc.nmk o2 (hin o2 (by simp))
  refine ⟨D, _, rfl, SqL.of hD2, rfl, _, _, rfl, _, _, rfl, rfl, ?_⟩
  -- its way
  refine ⟨_, rfl, b, 9, k + rcd d - 3, rfl, by decide, by decide, B2.less (by omega), fun way H3 w1 w2 B3 U3 => ?_⟩
  obtain ⟨ys1, hys1⟩ := B1.lst
  obtain ⟨ys2, hys2⟩ := B2.lst
  have U13 : But b H1 H3 := U2.trans U3
  have V3 : But2 b sd H H3 := (But2.of s1).trans (.but U13)
  have rc3 : RC H3 b sd an at_ nm ti := rc1.move st1 B1.lst (.but U13)
  have st3 : StL H3 sd an at_ L := st1.but hys1 U13
  have nmo : ∀ s ∈ nm, nmOk s := fun s h => (rc.nmk s h).1
  have tc6 : tc 6 = 756 := by decide
  -- a row that is no if: its end
  have fin : ∀ (v : V) (rs : Rs) (H' : Hp), RsIn H' rs [v] → Rs.ok d rs → rs.count = 1 → (∀ st ∈ rs.starts, st ∈ ti) → (∃ ys, H3 b = some (.lst ys)) → Bag H' b k → But b H3 H' → Q v H' := fun v rs H' a1 a2 a3 a4 ⟨ys, hy⟩ a5 a6 => q v rs H' a1 a2 (by omega) a4 (by rw [a3]; exact st3.but hy a6) a5 (V3.trans (.but a6))
  refine ⟨_, rfl, _, _, rfl, rfl, _, rfl, ?_⟩
  refine ite2 (fun c => ?_) (fun c => ?_)
  · -- go, call
    have c' : way < 3 := of_decide_eq_true c
    obtain ⟨tvs, ht, tin⟩ := rc3.titles
    have t1' := rc.ti1
    have t2' := rc.ti2
    refine ⟨_, rfl, _, rfl, _, rfl, at_, _, rfl, .inl (SqL.of ht), b, _, k + rcd d - 4, rfl, by rw [tin.1]; omega, by rw [tin.1]; omega, B3.less (by omega), fun d1 H4 a1 a2 B4 U4 => ?_⟩
    obtain ⟨v, ev, hv⟩ := menu (xs := tvs) a1 a2
    obtain ⟨i, hi, ei⟩ := List.mem_iff_getElem.mp hv
    obtain ⟨tt, htt, p, rfl, hp⟩ := tin.2 i v (by rw [List.getElem?_eq_getElem hi, ei])
    have tmem := List.mem_of_getElem? htt
    have tok := rc.tik tt tmem
    obtain ⟨ys3, hys3⟩ := B3.lst
    have kt34 : KeepT H3 H4 := .but hys3 U4
    refine ⟨at_, _, _, _, rfl, rfl, SqL.of (U4 _ _ rc.tb ht), ev, ?_⟩
    refine ⟨p, _, rfl, SqT.of (kt34 _ _ hp), rfl, _, _, rfl, _, _, rfl, rfl, ?_⟩
    have tlt := tok.2
    refine ⟨_, rfl, _, rfl, by omega, by omega, ?_⟩
    intro D2 hD2'
    have nD2b : D2 ≠ b := fun z => by obtain ⟨ys, hy⟩ := B4.lst; rw [z, hy] at hD2'; cases hD2'
    have B4' := B4.same (same_new hD2' (.lst []))
    refine lc_range (lo := 0) (n := ((tt.2 : Nat) : Int).toNat) (fun j H' => ∃ (es : List Ex) (ws : List V), H' D2 = some (.lst ws) ∧ TrsIn H' es ws ∧ es.length = j ∧ (∀ e ∈ es, Ex.fine 6 e) ∧ Bag H' b (k + rcd d - 4 - 100 * j) ∧ But b H4 H') ?_ ?_ ?_
    · exact ⟨[], [], upd_same, rfl, rfl, fun e h => (by cases h), B4'.less (by omega), But.new hD2' _⟩
    · rintro j H5 hj ⟨es, ws, hD5, ts, hl5, hf5, B5, U5⟩
      have hj4 : j < 4 := by omega
      refine ⟨rfl, ?_⟩
      obtain ⟨ys4, hys4⟩ := B4.lst
      obtain ⟨ys5, hys5⟩ := B5.lst
      have hn5 := U5 _ _ rc.nb (U4 _ _ rc.nb rc3.names)
      refine ⟨_, rfl, _, rfl, _, rfl, b, 3, k + rcd d - 5 - 100 * j, rfl, by decide, by decide, B5.less (by omega), fun d2 H6 b1 b2 B6 U6 => ?_⟩
      have ed : ((1 + d2).toNat : Int) = 1 + d2 := Int.toNat_of_nonneg (by omega)
      have tcs : tc (1 + d2).toNat ≤ 84 := by
        rcases (show d2 = 0 ∨ d2 = 1 ∨ d2 = 2 by omega) with rfl | rfl | rfl <;> decide
      refine ⟨_, _, rfl, rfl, (1 + d2).toNat, by omega, b, an, nm, k + rcd d - 5 - 100 * j - 84, (by show [V.ref b, V.ref an, V.int (1 + d2)] = _; rw [ed]), U6 _ _ rc.nb hn5, rc.nb, rc.nm2, nmo, by omega, B6.less (by omega), fun v' e' H7 t7 o7 B7 U7 => ?_⟩
      obtain ⟨ys6, hys6⟩ := B6.lst
      have kt57 : KeepT H5 H7 := (KeepT.but hys5 U6).trans (.but hys6 U7)
      have hD7 := U7 _ _ nD2b (U6 _ _ nD2b hD5)
      have kt8 : KeepT H7 (upd H7 D2 (.lst (ws ++ [v']))) := .upd hD7 (fun xs z => by cases z)
      refine ⟨_, hD7, by rw [ts.len]; omega, es ++ [e'], ws ++ [v'], upd_same, ?_, by rw [List.length_append, hl5]; rfl, ?_, ?_, ?_⟩
      · exact TrsIn.snoc (t7.keep kt8) ((ts.keep kt57).keep kt8)
      · intro e he
        rcases List.mem_append.mp he with h | h
        · exact hf5 e h
        · rw [List.mem_singleton.mp h]; exact Ex.of_fine6 rc.nmk (by omega) o7
      · obtain ⟨x', y', z', e, rr⟩ := B7
        exact Bag.less ⟨x', y', z', by rw [upd_ne (Ne.symm nD2b)]; exact e, rr⟩ (by omega)
      · intro a o na e
        rw [upd_ne (ne_of_none e hD2')]
        exact U7 _ _ na (U6 _ _ na (U5 _ _ na e))
    · rintro H5 ⟨es, ws, hD5, ts, hl5, hf5, B5, U5⟩
      refine ⟨(by show 3 ≤ sizeLine; decide), fun l hl' => ?_⟩
      have s6 := same_new hl' (.lst [.str "go", .str "call", .str "go"])
      have mw : ∃ wd : Bool, atI [V.str "go", V.str "call", V.str "go"] way = some (.str (goW wd)) := by
        rcases (show way = 0 ∨ way = 1 ∨ way = 2 by omega) with rfl | rfl | rfl
        · exact ⟨false, atI_nat (j := 0) rfl⟩
        · exact ⟨true, atI_nat (j := 1) rfl⟩
        · exact ⟨false, atI_nat (j := 2) rfl⟩
      obtain ⟨wd, ew⟩ := mw
      refine ⟨_, rfl, l, _, _, _, rfl, rfl, SqL.of upd_same, ew, _, rfl, _, rfl, _, rfl, D2, _, rfl, .inl ⟨SqL.of (s6 _ _ hD5), fun p2 hp2 => ?_⟩⟩
      have s7 := same_new hp2 (.tup ws)
      refine ⟨(by show 4 ≤ sizeLine; decide), fun p3 hp3 => ?_⟩
      have s8 := same_new hp3 (.tup [.str (goW wd), .str o1, .str tt.1, .ref p2])
      have s68 := s6.trans (s7.trans s8)
      refine fin (.ref p3) (.go wd o1 tt.1 es .nil) _ ⟨p3, p2, ws, [], rfl, upd_same, s8 _ _ upd_same, ts.same s68, rfl⟩ ⟨ok1, tok.1, by omega, hf5, trivial⟩ rfl ?_ B3.lst ((B5.same s68).less (by omega)) (U4.trans (U5.trans (.of s68)))
      intro st hst'
      have hst'' : st = (tt.1, es.length) := by simpa [Rs.starts] using hst'
      rw [hst'', hl5]
      have : ((tt.2 : Nat) : Int).toNat = tt.2 := Int.toNat_natCast _
      rw [this]
      exact tmem
  · have c' : ¬ way < 3 := of_decide_eq_false (Bool.eq_false_iff.mpr c)
    refine ⟨_, rfl, rfl, _, rfl, ?_⟩
    refine ite2 (fun c3 => ?_) (fun c3 => ?_)
    · -- wait
      refine ⟨_, rfl, _, rfl, _, rfl, _, rfl, 2, by decide, b, an, nm, k + rcd d - 3 - 36, rfl, rc3.names, rc.nb, rc.nm2, nmo, by decide, B3.less (by have h36 : tc 2 = 36 := (by decide); omega), fun v e H4 t4 o4 B4 U4 => ?_⟩
      refine ⟨(by show 2 ≤ sizeLine; decide), fun l hl' => ?_⟩
      have s5 := same_new hl' (.lst [.non, v])
      refine ⟨_, rfl, b, 2, k + rcd d - 4 - 36, rfl, by decide, by decide, (B4.same s5).less (by omega), fun d2 H6 b1 b2 B6 U6 => ?_⟩
      have nlb : l ≠ b := fun z => by obtain ⟨ys, hy⟩ := B4.lst; rw [z, hy] at hl'; cases hl'
      have hl6 : H6 l = some (.lst [.non, v]) := U6 _ _ nlb upd_same
      obtain ⟨ys5, hys5⟩ := (B4.same s5).lst
      have t6 : TrIn H6 e v := (t4.same s5).keep (.but hys5 U6)
      have mo : ∃ (oe : Option Ex) (v' : V), atI [V.non, v] d2 = some v' ∧ OptIn H6 oe v' ∧ ∀ e', oe = some e' → Ex.fine 6 e' := by
        rcases (show d2 = 0 ∨ d2 = 1 by omega) with rfl | rfl
        · exact ⟨none, .non, atI_nat (j := 0) rfl, rfl, fun e' z => (by cases z)⟩
        · exact ⟨some e, v, atI_nat (j := 1) rfl, t6, fun e' z => (by cases z; exact Ex.of_fine6 rc.nmk (by omega) o4)⟩
      obtain ⟨oe, v', ev, ov, of6⟩ := mo
      refine ⟨l, _, _, _, rfl, rfl, SqL.of hl6, ev, (by show 4 ≤ sizeLine; decide), fun p hp => ?_⟩
      have s7 := same_new hp (.tup [.str "wait", .str o1, .str o2, v'])
      exact fin (.ref p) (.wait o1 o2 oe .nil) _ ⟨p, v', [], rfl, upd_same, ov.same s7, rfl⟩ ⟨ok1, ok2, of6, trivial⟩ rfl (fun st h => (by cases h)) B3.lst ((B6.same s7).less (by omega)) (U4.trans ((But.of s5).trans (U6.trans (.of s7))))
    · -- an if?
      have goOn : ∀ (cc : Bool), True := fun _ => trivial
      refine ⟨fun σ' H' => (σ' = [some (.ref b), some (.ref sd), some (.int ((3 - d : Nat) : Int)), some (.ref an), some (.ref at_), some (.str o1), some (.str o2), some (.int way), none, none, none, none, none]) ∧ H' = H3, ?_, ?_⟩
      · refine ⟨_, rfl, rfl, _, rfl, ?_⟩
        refine ite2 (fun c4 => ⟨_, rfl, _, _, rfl, rfl, _, rfl, ite2 (fun c5 => ?_) (fun c5 => ⟨rfl, rfl⟩)⟩) (fun c4 => ⟨rfl, rfl⟩)
        have c5' : ((3 - d : Nat) : Int) < 3 := of_decide_eq_true c5
        have hd1 : 1 ≤ d := by omega
        obtain ⟨dd, rfl⟩ : ∃ dd, d = dd + 1 := ⟨d - 1, by omega⟩
        have erc : rcd (dd + 1) = 800 + 2 * (1 + mm dd * rcd dd) := rfl
        have en : ((3 - (dd + 1) : Nat) : Int) + 1 = ((3 - dd : Nat) : Int) := by omega
        refine ⟨_, rfl, _, rfl, 2, by decide, b, an, nm, k + 2 * (1 + mm dd * rcd dd) + 700, rfl, rc3.names, rc.nb, rc.nm2, nmo, by decide, B3.less (by have h36 : tc 2 = 36 := (by decide); omega), fun v e H4 t4 o4 B4 U4 => ?_⟩
        obtain ⟨ys3, hys3⟩ := B3.lst
        have rc4 := rc3.move st3 ⟨_, hys3⟩ (.but U4)
        have st4 := st3.but hys3 U4
        refine ⟨_, rfl, _, rfl, _, rfl, _, rfl, _, _, rfl, rfl, ?_⟩
        rw [eB hd1]
        refine ⟨b, sd, an, at_, nm, ti, L, k + (1 + mm dd * rcd dd), (by show [V.ref b, V.ref sd, V.int (((3 - (dd + 1) : Nat) : Int) + 1)] = _; rw [en]; rfl), by omega, rc4, st4, B4.less (by show k + (1 + mm dd * rcd dd) + (1 + mm dd * rcd dd) ≤ _; omega), fun p xs rs H5 hp hR ok hc' hst5 st5 B5 U5 => ?_⟩
        obtain ⟨ys4, hys4⟩ := B4.lst
        have rc5 := rc4.move st4 ⟨_, hys4⟩ U5
        have kt45 : KeepT H4 H5 := .but2 hys4 st4 U5
        refine ⟨_, rfl, _, rfl, _, rfl, _, _, rfl, rfl, ?_⟩
        refine ⟨b, sd, an, at_, nm, ti, L - rs.count, k, (by show [V.ref b, V.ref sd, V.int (((3 - (dd + 1) : Nat) : Int) + 1)] = _; rw [en]; rfl), by omega, rc5, st5, B5, fun p' xs' rs' H6 hp' hR' ok' hc6 hst6 st6 B6 U6 => ?_⟩
        obtain ⟨ys5, hys5⟩ := B5.lst
        have kt56 : KeepT H5 H6 := .but2 hys5 st5 U6
        refine ⟨(by show 4 ≤ sizeLine; decide), fun p7 hp7 => ?_⟩
        have s7 := same_new hp7 (.tup [.str "if", v, .ref p, .ref p'])
        have ec : (Rs.iff e rs rs' .nil).count = 1 + rs.count + rs'.count + 0 := rfl
        refine q (.ref p7) (.iff e rs rs' .nil) _ ⟨p7, v, p, xs, p', xs', [], rfl, upd_same, ((t4.keep kt45).keep kt56).same s7, s7 _ _ (kt56 _ _ hp), (hR.keep kt56).same s7, s7 _ _ hp', hR'.same s7, rfl⟩ ⟨by omega, Ex.of_fine6 rc.nmk (by omega) o4, ok, ok', trivial⟩ (by omega) ?_ ?_ (B6.same s7) (V3.trans ((But2.but U4).trans (U5.trans (U6.trans (.of s7)))))
        · intro st h
          have h' : st ∈ rs.starts ∨ st ∈ rs'.starts := by simpa [Rs.starts] using h
          rcases h' with h | h
          · exact hst5 st h
          · exact hst6 st h
        · have e7 : L + 1 - (Rs.iff e rs rs' .nil).count = L - rs.count - rs'.count := by omega
          rw [e7]
          exact st6.same s7
      · rintro σ' H' ⟨rfl, rfl⟩
        refine ⟨_, rfl, rfl, _, rfl, ?_⟩
        refine ite2 (fun c5 => ?_) (fun c5 => ?_)
        · -- give, fail
          refine ⟨(by show 2 ≤ sizeLine; decide), fun l hl' => ?_⟩
          have s4 := same_new hl' (.lst [.str "give", .str "fail"])
          have nlb : l ≠ b := fun z => by obtain ⟨ys, hy⟩ := B3.lst; rw [z, hy] at hl'; cases hl'
          refine ⟨_, rfl, b, 2, k + rcd d - 4, rfl, by decide, by decide, (B3.same s4).less (by omega), fun d1 H5 a1 a2 B5 U5 => ?_⟩
          have hl5 : H5 l = some (.lst [.str "give", .str "fail"]) := U5 _ _ nlb upd_same
          have mw : ∃ wd : Bool, atI [V.str "give", V.str "fail"] d1 = some (.str (giveW wd)) := by
            rcases (show d1 = 0 ∨ d1 = 1 by omega) with rfl | rfl
            · exact ⟨false, atI_nat (j := 0) rfl⟩
            · exact ⟨true, atI_nat (j := 1) rfl⟩
          obtain ⟨wd, ew⟩ := mw
          refine ⟨l, _, _, _, rfl, rfl, SqL.of hl5, ew, ?_⟩
          refine ⟨_, rfl, _, rfl, _, rfl, b, 4, k + rcd d - 5, rfl, by decide, by decide, B5.less (by omega), fun d2 H6 b1 b2 B6 U6 => ?_⟩
          have ed : ((1 + d2).toNat : Int) = 1 + d2 := Int.toNat_of_nonneg (by omega)
          have tcs : tc (1 + d2).toNat ≤ 180 := by
            rcases (show d2 = 0 ∨ d2 = 1 ∨ d2 = 2 ∨ d2 = 3 by omega) with rfl | rfl | rfl | rfl <;> decide
          have hn6 := U6 _ _ rc.nb (U5 _ _ rc.nb (s4 _ _ rc3.names))
          refine ⟨_, _, rfl, rfl, (1 + d2).toNat, by omega, b, an, nm, k + rcd d - 5 - 180, (by show [V.ref b, V.ref an, V.int (1 + d2)] = _; rw [ed]), hn6, rc.nb, rc.nm2, nmo, by omega, B6.less (by omega), fun v' e' H7 t7 o7 B7 U7 => ?_⟩
          refine ⟨(by show 2 ≤ sizeLine; decide), fun p hp => ?_⟩
          have s8 := same_new hp (.tup [.str (giveW wd), v'])
          exact fin (.ref p) (.give wd e' .nil) _ ⟨p, v', [], rfl, upd_same, t7.same s8, rfl⟩ ⟨Ex.of_fine6 rc.nmk (by omega) o7, trivial⟩ rfl (fun st h => (by cases h)) B3.lst ((B7.same s8).less (by omega)) ((But.of s4).trans (U5.trans (U6.trans (U7.trans (.of s8)))))
        · -- put
          refine ⟨_, rfl, _, rfl, _, rfl, _, rfl, b, 6, k + rcd d - 4, rfl, by decide, by decide, B3.less (by omega), fun d2 H6 b1 b2 B6 U6 => ?_⟩
          have ed : ((1 + d2).toNat : Int) = 1 + d2 := Int.toNat_of_nonneg (by omega)
          have tcs : tc (1 + d2).toNat ≤ 756 := by
            rcases (show d2 = 0 ∨ d2 = 1 ∨ d2 = 2 ∨ d2 = 3 ∨ d2 = 4 ∨ d2 = 5 by omega) with rfl | rfl | rfl | rfl | rfl | rfl <;> decide
          refine ⟨_, _, rfl, rfl, (1 + d2).toNat, by omega, b, an, nm, k, (by show [V.ref b, V.ref an, V.int (1 + d2)] = _; rw [ed]), U6 _ _ rc.nb rc3.names, rc.nb, rc.nm2, nmo, by omega, B6.less (by omega), fun v' e' H7 t7 o7 B7 U7 => ?_⟩
          refine ⟨(by show 3 ≤ sizeLine; decide), fun p hp => ?_⟩
          have s8 := same_new hp (.tup [.str "put", .str o1, v'])
          exact fin (.ref p) (.put o1 e' .nil) _ ⟨p, v', [], rfl, upd_same, t7.same s8, rfl⟩ ⟨ok1, Ex.of_fine6 rc.nmk (by omega) o7, trivial⟩ rfl (fun st h => (by cases h)) B3.lst (B7.same s8) (U6.trans (U7.trans (.of s8)))
end
end SH

set_option Elab.async false
set_option linter.all false
set_option maxRecDepth 100000
namespace SH
open PySem L2
abbrev sWorks : Stmt := topS 73
theorem scWorks : FnScope ["_law_bag_here", "_law_most", "_law_titles", "_law_names_here", "_law_some", "_law_found", "_law_title", "_law_many", "_law_at", "_law_handed", "_law_room", "_law_rows_here"] ["_law_bag_here", "_law_most"] (defScope sWorks) := ⟨rfl, rfl, rfl, by decide +kernel, rfl, by decide +kernel, by decide +kernel⟩
theorem mm_at {d : Nat} (h : d ≤ 3) : atI (([12, 4, 3, 3] : List Int).map V.int) ((3 - d : Nat) : Int) = some (.int ((mm d : Nat) + 1 : Int)) := by
  match d, h with
  | 0, _ => exact atI_nat (j := 3) rfl
  | 1, _ => exact atI_nat (j := 2) rfl
  | 2, _ => exact atI_nat (j := 1) rfl
  | 3, _ => exact atI_nat (j := 0) rfl
theorem mm_le {d : Nat} (h : d ≤ 3) : mm d ≤ 11 := by
  match d, h with
  | 0, _ => decide
  | 1, _ => decide
  | 2, _ => decide
  | 3, _ => decide
theorem RC.same {H H' : Hp} {b sd an at_ : Addr} {nm : List Str} {ti : List (Str × Nat)} (r : RC H b sd an at_ nm ti) (h : Same H H') : RC H' b sd an at_ nm ti := by
  obtain ⟨tvs, h1, h2⟩ := r.titles
  refine ⟨h _ _ r.names, ⟨tvs, h _ _ h1, h2.1, fun i v e => ?_⟩, r.nb, r.tb, r.nm1, r.nm2, r.nmk, r.ti1, r.ti2, r.tik⟩
  obtain ⟨t, e1, p, e2, e3⟩ := h2.2 i v e
  exact ⟨t, e1, p, e2, h _ _ e3⟩
section
variable {P : Program} {w : World} {K : PySem.W.Frag} {mg : Str → Option Value} {base : Heap}
theorem ok_rows {d : Nat} {f t r : Addr} {fd td rd : FuncData} (F : Fun K "_law_rows" "_law_rows" sRows f fd) (TK : Fk P w K mg base 1 "_law_take" t td ["_law_bag_here", "_law_many"] spTake) (RO : Fk P w K mg base (9 + 2 * d) "_law_row" r rd ["_law_bag_here", "_law_state", "_law_nested"] (spRow d)) (T : Bi mg) (mt : mg "tuple" = none) :
    FnOk P w K mg base CX0 (9 + 2 * d + 1) f fd ["_law_bag_here", "_law_state", "_law_nested"] (spRows d) := by
  refine F.ok scRows (fun vs H Q E h => ?_) (fun cdv A outer s H vs Q E hr h => ?_)
  · obtain ⟨b, sd, an, at_, nm, ti, L, k, rfl, _⟩ := h
    rfl
  obtain ⟨b, sd, an, at_, nm, ti, L, k, rfl, d3, rc, hst, hB, q⟩ := h
  refine ⟨_, (pss_cons (ps_set (i := 3) scRows.nd rfl (Or.inl rfl) (pe_callB (call_min2 rfl) (by rfl) T.min (by decide +kernel) (pa_cons (pe_call TK.G (hr.mono (by omega)) (by rfl) TK.m TK.k TK.b .nil pass0 (pa_cons (pv 0) (pa_cons (pe_ix ix_list (pe_lst (pa_cons pe_int (pa_cons pe_int (pa_cons pe_int (pa_cons pe_int pa_nil))))) (pv 2) (fun _ _ => rfl)) pa_nil))) (pa_cons (pe_dget (hu_of hr) (pv 1) pe_str (fun _ _ => rfl)) pa_nil))))
    (pss_cons (ps_dput (hu_of hr) (pv 1) pe_str (pe_op op_sub (pe_dget (hu_of hr) (pv 1) pe_str (fun _ _ => rfl)) (pv 3)) rfl)
    (pss_one (ps_ret (pe_callTy call_tuple_of (by rfl) mt (by decide +kernel) (pa_cons (pe_lc (own := [("_law_k", 4)]) (g := gName 4) (tt := tYes) (by rfl) scRows.nd (pi_range1 (by rfl) T.range (pa_cons (pv 3) pa_nil)) (blkOk_by (own := [("_law_k", 4)]) (N := ["_law_bag_here", "_law_state", "_law_nested", "_law_many", "_law_k"]) (sc := defScope sRows) (by decide +kernel)) (fun _ _ _ _ _ => pg_name (i := 4) scRows.nd rfl (Or.inl rfl)) (fun _ _ _ _ _ => pts_nil) (fun _ _ _ _ _ => (pe_call RO.G hr (by rfl) RO.m RO.k RO.b .nil pass0 (pa_cons (pv 0) (pa_cons (pv 1) (pa_cons (pv 2) pa_nil)))))) pa_nil)))))), ?_⟩
  have hs : sizeLine = 16777216 := by decide
  have hmm := mm_le d3
  obtain ⟨ys0, hys0⟩ := hB.lst
  refine ⟨_, rfl, (by show 4 ≤ sizeLine; decide), fun l hl => ?_⟩
  have s1 := same_new hl (.lst (([12, 4, 3, 3] : List Int).map V.int))
  refine ⟨_, rfl, l, _, _, _, rfl, rfl, SqL.of upd_same, mm_at d3, b, _, k + mm d * rcd d, rfl, by omega, by omega, (hB.same s1).less (by omega), fun d1 H1 a1 a2 B1 U1 => ?_⟩
  have U01 : But b H H1 := (But.of s1).trans U1
  have st1 := hst.but hys0 U01
  have rc1 := rc.move hst ⟨_, hys0⟩ (.but U01)
  obtain ⟨g1, g2, g3⟩ := st1.get
  obtain ⟨M, eM, hM1, hM2⟩ : ∃ M : Nat, (if ((L : Nat) : Int) < d1 then ((L : Nat) : Int) else d1) = ((M : Nat) : Int) ∧ M ≤ L ∧ M ≤ mm d := by
    split
    · exact ⟨L, rfl, Nat.le_refl _, by omega⟩
    · exact ⟨d1.toNat, by omega, by omega, by omega⟩
  refine ⟨_, rfl, sd, _, rfl, g3, _, _, rfl, ?_⟩
  rw [eM]
  have eL : ((L : Nat) : Int) - ((M : Nat) : Int) = ((L - M : Nat) : Int) := by omega
  have eP : putK (stK an at_ L) (Sum.inr "left") (.int (((L : Nat) : Int) - ((M : Nat) : Int))) = stK an at_ (L - M) := by rw [eL, st_put]
  have dput := DPut.k (k := Sum.inr "left") (v := .int (((L : Nat) : Int) - ((M : Nat) : Int))) (show H1 sd = some (.dK (stK an at_ L)) from st1) (by show 3 < sizeLine; decide)
  rw [eP] at dput
  refine ⟨_, rfl, sd, _, rfl, g3, _, rfl, _, _, rfl, rfl, _, rfl, sd, _, rfl, dput, ?_⟩
  have nsb : b ≠ sd := fun z => by unfold StL at st1; obtain ⟨ys, hy⟩ := B1.lst; rw [z, st1] at hy; cases hy
  have st2 : StL (upd H1 sd (.dK (stK an at_ (L - M)))) sd an at_ (L - M) := upd_same
  have U12 : But2 b sd H1 (upd H1 sd (.dK (stK an at_ (L - M)))) := fun a o _ nd e => by rw [upd_ne nd]; exact e
  have B2 : Bag (upd H1 sd (.dK (stK an at_ (L - M)))) b (k + mm d * rcd d) := by
    obtain ⟨x, y, z, e, rr⟩ := B1
    exact ⟨x, y, z, by rw [upd_ne nsb]; exact e, rr⟩
  have rc2 := rc1.move st1 B1.lst U12
  have V2 : But2 b sd H (upd H1 sd (.dK (stK an at_ (L - M)))) := (But2.but U01).trans U12
  generalize upd H1 sd (.dK (stK an at_ (L - M))) = H2 at st2 U12 B2 rc2 V2
  refine ⟨_, rfl, _, rfl, by omega, by omega, ?_⟩
  intro D hD
  have nDb : D ≠ b := fun z => by obtain ⟨ys, hy⟩ := B2.lst; rw [z, hy] at hD; cases hD
  have nDs : D ≠ sd := fun z => by unfold StL at st2; rw [z, st2] at hD; cases hD
  have sD := same_new hD (.lst [])
  refine lc_range (lo := 0) (n := ((M : Nat) : Int).toNat) (fun j H' => ∃ (rs : Rs) (vs : List V), H' D = some (.lst vs) ∧ RsIn H' rs vs ∧ vs.length = j ∧ Rs.ok d rs ∧ j ≤ rs.count ∧ rs.count - j ≤ L - M ∧ (∀ st ∈ rs.starts, st ∈ ti) ∧ StL H' sd an at_ (L - M - (rs.count - j)) ∧ Bag H' b (k + (mm d - j) * rcd d) ∧ But2 b sd H2 H') ?_ ?_ ?_
  · exact ⟨.nil, [], upd_same, rfl, rfl, trivial, Nat.le_refl _, Nat.zero_le _, fun st h => (by cases h), st2.same sD, B2.same sD, .of sD⟩
  · rintro j H3 hj ⟨rs, vs, hD3, hR, hl3, ok3, c1, c2, hs3, st3, B3, U3⟩
    have hjM : j < M := by omega
    refine ⟨rfl, ?_⟩
    have rc3 := rc2.move st2 B2.lst U3
    have eB : k + (mm d - j) * rcd d = k + (mm d - (j + 1)) * rcd d + rcd d := by
      rw [show mm d - j = (mm d - (j + 1)) + 1 by omega, Nat.succ_mul]
      omega
    rw [eB] at B3
    refine ⟨_, rfl, _, rfl, _, rfl, b, sd, an, at_, nm, ti, _, _, rfl, d3, rc3, st3, B3, fun v r1 H4 hR1 ok1 k1 hs1 st4 B4 U4 => ?_⟩
    obtain ⟨ys3, hys3⟩ := B3.lst
    have kt : KeepT H3 H4 := .but2 hys3 st3 U4
    have hD4 := U4 _ _ nDb nDs hD3
    have k5 : KeepT H4 (upd H4 D (.lst (vs ++ [v]))) := .upd hD4 (fun xs z => by cases z)
    have r1c : 1 ≤ r1.count := by
      have := r1.count_eq
      have := Rs.rc_pos hR1
      omega
    refine ⟨_, hD4, by omega, rs.app r1, vs ++ [v], upd_same, RsIn.app (hR1.keep k5) ((hR.keep kt).keep k5), by rw [List.length_append, hl3]; rfl, Rs.app_ok ok1 ok3, by rw [Rs.app_count]; omega, by rw [Rs.app_count]; omega, ?_, ?_, ?_, ?_⟩
    · intro st h
      rw [Rs.app_starts] at h
      rcases List.mem_append.mp h with h | h
      · exact hs3 st h
      · exact hs1 st h
    · have e : L - M - ((rs.app r1).count - (j + 1)) = L - M - (rs.count - j) + 1 - r1.count := by rw [Rs.app_count]; omega
      rw [e]
      unfold StL
      rw [upd_ne (Ne.symm nDs)]
      exact st4
    · obtain ⟨x', y', z', e, rr⟩ := B4
      exact ⟨x', y', z', by rw [upd_ne (Ne.symm nDb)]; exact e, rr⟩
    · intro a o na nd e
      rw [upd_ne (ne_of_none e hD)]
      exact U4 _ _ na nd (U3 _ _ na nd e)
  · rintro H3 ⟨rs, vs, hD3, hR, hl3, ok3, c1, c2, hs3, st3, B3, U3⟩
    have eM' : ((M : Nat) : Int).toNat = M := Int.toNat_natCast M
    rw [eM'] at c1 c2 st3
    refine ⟨D, vs, rfl, .inl ⟨SqL.of hD3, fun p hp => ?_⟩⟩
    have s4 := same_new hp (.tup vs)
    refine q p vs rs _ upd_same (hR.same s4) ok3 (by omega) hs3 ?_ ((B3.same s4).less (by omega)) (V2.trans (U3.trans (.of s4)))
    rw [show L - rs.count = L - M - (rs.count - M) by omega]
    exact st3.same s4
end
end SH

set_option Elab.async false
set_option linter.all false
set_option maxRecDepth 100000
namespace SH
open PySem L2
theorem cutV_from {xs : List V} {n : Nat} (h : n ≤ xs.length) : cutV xs (some (n : Int)) none = xs.drop n := by
  unfold cutV
  rw [HT.sIx_nat, HT.sIx_none, Nat.min_eq_left h]
  exact List.take_of_length_le (by rw [List.length_drop]; exact Nat.le_refl _)
theorem cutV_to {xs : List V} {n : Nat} (h : n ≤ xs.length) : cutV xs none (some (n : Int)) = xs.take n := by
  unfold cutV
  rw [HT.sIx_nat, HT.sIx_none, Nat.min_eq_left h]
  show (xs.drop 0).take (n - 0) = _
  rw [List.drop_zero, Nat.sub_zero]
/-- the names from a place on and round, so many -/
def rot (nm : List Str) (a m : Nat) : List Str := (nm.drop a ++ nm.take a).take m
theorem rot_len {nm : List Str} {a m : Nat} (ha : a ≤ nm.length) (h : m ≤ nm.length) : (rot nm a m).length = m := by
  unfold rot
  rw [List.length_take, List.length_append, List.length_drop, List.length_take]
  omega
theorem rot_nd {nm : List Str} {a m : Nat} (h : nm.Nodup) : (rot nm a m).Nodup := by
  unfold rot
  have e : (nm.take a ++ nm.drop a).Nodup := by rw [List.take_append_drop]; exact h
  have e2 : (nm.drop a ++ nm.take a).Nodup := (List.perm_append_comm.nodup_iff).mp e
  exact e2.sublist (List.take_sublist _ _)
theorem rot_mem {nm : List Str} {a m : Nat} {s : Str} (h : s ∈ rot nm a m) : s ∈ nm := by
  unfold rot at h
  rcases List.mem_append.mp (List.mem_of_mem_take h) with h | h
  · exact List.mem_of_mem_drop h
  · exact List.mem_of_mem_take h
def spWorks : Sp := fun vs H Q _ => ∃ (b : Addr) (M k : Nat), vs = [.ref b, .int (M : Nat)] ∧ 1 ≤ M ∧ M ≤ 12 ∧ Bag H b (k + M * 1200000 + 1000) ∧
  ∀ (l : Addr) (us : List V) (Ws : List Wk) (H' : Hp), H l = none → H' l = some (.lst us) → WksIn H' Ws us → WksOk Ws → 1 ≤ Ws.length → Ws.length ≤ M → Bag H' b k → But b H H' → Q (.ref l) H'
section
variable {P : Program} {w : World} {K : PySem.W.Frag} {mg : Str → Option Value} {base : Heap}
theorem rowsAll {f t u r : Addr} {fd td ud rd : FuncData} (F : Fun K "_law_row" "_law_row" sRow f fd) (mF : mg "_law_row" = some (.ref f)) (bF : Binds K fd ["_law_bag_here", "_law_state", "_law_nested"] []) (FR : Fun K "_law_rows" "_law_rows" sRows r rd) (mR : mg "_law_rows" = some (.ref r)) (bR : Binds K rd ["_law_bag_here", "_law_state", "_law_nested"] [])
    (TK : Fk P w K mg base 1 "_law_take" t td ["_law_bag_here", "_law_many"] spTake) (TR : Fk P w K mg base 8 "_law_tree" u ud ["_law_bag_here", "_law_names_here", "_law_deep"] (spTrees 6)) (T : Bi mg) (mt : mg "tuple" = none) : ∀ d : Nat, FnOk P w K mg base CX0 (9 + 2 * d + 1) r rd ["_law_bag_here", "_law_state", "_law_nested"] (spRows d)
  | 0 => ok_rows (d := 0) FR TK ⟨ok_row (d := 0) F TK TR (fun h => absurd h (by decide)) mR FR.kp bR T mt, mF, F.kp, bF⟩ T mt
  | d + 1 => ok_rows (d := d + 1) FR TK ⟨ok_row (d := d + 1) F TK TR (fun _ => by
      have z := rowsAll F mF bF FR mR bR TK TR T mt d
      rw [show 8 + 2 * (d + 1) = 9 + 2 * d + 1 by omega]
      exact z) mR FR.kp bR T mt, mF, F.kp, bF⟩ T mt
set_option maxHeartbeats 4000000 in
theorem ok_works {f t n r : Addr} {fd td nd rd : FuncData} (F : Fun K "_law_works" "_law_works" sWorks f fd) (TK : Fk P w K mg base 1 "_law_take" t td ["_law_bag_here", "_law_many"] spTake) (NM : Fk P w K mg base 2 "_law_names" n nd ["_law_bag_here", "_law_many"] spNames) (RW : Fk P w K mg base 16 "_law_rows" r rd ["_law_bag_here", "_law_state", "_law_nested"] (spRows 3)) (T : Bi mg) (mt : mg "tuple" = none) :
    FnOk P w K mg base CX0 17 f fd ["_law_bag_here", "_law_most"] spWorks := by
  refine F.ok scWorks (fun vs H Q E h => ?_) (fun cdv A outer s H vs Q E hr h => ?_)
  · obtain ⟨b, M, k, rfl, _⟩ := h
    rfl
  obtain ⟨b, M, k, rfl, m1, m12, hB, q⟩ := h
  refine ⟨_, (pss_cons (ps_set (i := 2) scWorks.nd rfl (Or.inl rfl) (pe_call NM.G (hr.mono (by omega)) (by rfl) NM.m NM.k NM.b .nil pass0 (pa_cons (pv 0) (pa_cons (pe_op op_add pe_int (pe_call TK.G (hr.mono (by omega)) (by rfl) TK.m TK.k TK.b .nil pass0 (pa_cons (pv 0) (pa_cons (pv 1) pa_nil)))) pa_nil))))
    (pss_cons (ps_set (i := 3) scWorks.nd rfl (Or.inl rfl) (pe_call NM.G (hr.mono (by omega)) (by rfl) NM.m NM.k NM.b .nil pass0 (pa_cons (pv 0) (pa_cons pe_int pa_nil))))
    (pss_cons (ps_setLc (i := 4) (own := [("_law_title", 6)]) (g := gName 6) (tt := tYes) (by rfl) scWorks.nd rfl rfl (sw_true rfl rfl rfl (by decide +kernel)) (pi_list (pv 2)) (blkOk_by (own := [("_law_title", 6)]) (N := ["_law_bag_here", "_law_most", "_law_titles", "_law_names_here", "_law_some", "_law_found", "_law_title", "_law_many", "_law_at", "_law_handed", "_law_room", "_law_rows_here"]) (sc := defScope sWorks) (by decide +kernel)) (fun _ _ _ _ _ => pg_name (i := 6) scWorks.nd rfl (Or.inl rfl)) (fun _ _ _ _ _ => pts_nil) (fun _ _ _ _ _ => (pe_tup (pa_cons (pv 6) (pa_cons (pe_call TK.G (hr.mono (by omega)) (by rfl) TK.m TK.k TK.b .nil pass0 (pa_cons (pv 0) (pa_cons pe_int pa_nil))) pa_nil)))))
    (pss_cons (ps_set (i := 5) scWorks.nd rfl (Or.inl rfl) (pe_lst pa_nil))
    (pss_cons (ps_for PassesOwn.never rfl (pi_list (pv 4)) (pg_tup rfl (pgs_cons (pg_name (i := 6) scWorks.nd rfl (.inl rfl)) (pgs_cons (pg_name (i := 7) scWorks.nd rfl (.inl rfl)) pgs_nil)))
      (pss_cons (ps_set (i := 8) scWorks.nd rfl (Or.inl rfl) (pe_call TK.G (hr.mono (by omega)) (by rfl) TK.m TK.k TK.b .nil pass0 (pa_cons (pv 0) (pa_cons pe_int pa_nil))))
    (pss_cons (ps_set (i := 9) scWorks.nd rfl (Or.inl rfl) (pe_callTy call_tuple_of (by rfl) mt (by decide +kernel) (pa_cons (pe_slice sl_list (pe_op op_cat (pe_slice sl_list (pv 3) (po_some (pv 8)) po_none) (pe_slice sl_list (pv 3) po_none (po_some (pv 8)))) po_none (po_some (pv 7))) pa_nil)))
    (pss_cons (ps_set (i := 10) scWorks.nd rfl (Or.inl rfl) (pe_ix ix_list (pe_lst (pa_cons pe_int (pa_cons pe_int (pa_cons (pe_call TK.G (hr.mono (by omega)) (by rfl) TK.m TK.k TK.b .nil pass0 (pa_cons (pv 0) (pa_cons pe_int pa_nil))) (pa_cons (pe_call TK.G (hr.mono (by omega)) (by rfl) TK.m TK.k TK.b .nil pass0 (pa_cons (pv 0) (pa_cons pe_int pa_nil))) pa_nil))))) (pe_call TK.G (hr.mono (by omega)) (by rfl) TK.m TK.k TK.b .nil pass0 (pa_cons (pv 0) (pa_cons pe_int pa_nil))) (fun _ _ => rfl)))
    (pss_cons (ps_set (i := 11) scWorks.nd rfl (Or.inl rfl) (pe_call RW.G hr (by rfl) RW.m RW.k RW.b .nil pass0 (pa_cons (pv 0) (pa_cons (pe_disp (pps_cons pe_str (pv 3) (pps_cons pe_str (pv 4) (pps_cons pe_str pe_int pps_nil))) (by rfl) (by rfl) (fun z => by cases z) (by decide)) (pa_cons pe_int pa_nil)))))
    (pss_one (ps_expr (pe_bm PySem.F.plainAttrs_list PySem.F.slot_list_append PySem.F.type_list_append mt_append (pv 5) (pa_cons (pe_tup (pa_cons pe_str (pa_cons (pv 6) (pa_cons (pv 9) (pa_cons (pv 10) (pa_cons (pv 11) pa_nil)))))) pa_nil)))))))))
    (pss_one (ps_ret (pv 5)))))))), ?_⟩
  have hs : sizeLine = 16777216 := by decide
  have rw3 : 1 + mm 3 * rcd 3 = 1118283 := by decide
  -- titles
  refine ⟨_, rfl, _, rfl, _, rfl, b, _, k + M * 1200000 + 999, rfl, by omega, by omega, hB.less (by omega), fun d1 H1 a1 a2 B1 U1 => ?_⟩
  have ed : ((1 + d1).toNat : Int) = 1 + d1 := Int.toNat_of_nonneg (by omega)
  refine ⟨_, _, rfl, rfl, b, (1 + d1).toNat, k + M * 1200000 + 799, (by show [V.ref b, V.int (1 + d1)] = _; rw [ed]), by omega, B1.less (by omega), fun pt tl H2 npt hpt ltl okt B2 U2 => ?_⟩
  have ntb : pt ≠ b := fun z => by obtain ⟨ys, hy⟩ := B1.lst; rw [z, hy] at npt; cases npt
  -- names
  refine ⟨_, rfl, b, 5, k + M * 1200000 + 700, rfl, by decide, B2.less (by omega), fun pn nm H3 npn hpn lnm okn B3 U3 => ?_⟩
  have nnb : pn ≠ b := fun z => by obtain ⟨ys, hy⟩ := B2.lst; rw [z, hy] at npn; cases npn
  have hpt3 := U3 _ _ ntb hpt
  -- some
  refine ⟨_, rfl, pt, rfl, ⟨_, SqL.of hpt3⟩, ?_⟩
  intro D hD
  have nDb : D ≠ b := fun z => by obtain ⟨ys, hy⟩ := B3.lst; rw [z, hy] at hD; cases hD
  refine lc_list (K := K) (a := pt) (xs := tl.map V.str) (fun j H' => ∃ (ti : List (Str × Nat)) (vs : List V), H' D = some (.lst vs) ∧ TisIn H' ti vs ∧ ti.map Prod.fst = tl.take j ∧ (∀ x ∈ ti, x.2 ≤ 4) ∧ Bag H' b (k + M * 1200000 + 700 - j) ∧ But b H3 H') ?_ ?_ ?_ ?_
  · exact ⟨[], [], upd_same, ⟨rfl, fun i v e => (by simp at e)⟩, rfl, fun x h => (by cases h), B3.same (same_new hD _), But.new hD _⟩
  · rintro j H' _ ⟨_, _, _, _, _, _, _, U⟩
    exact SqL.of (U _ _ ntb hpt3)
  · rintro j x H4 hx ⟨ti, vs, hD4, tin, etl, h4, B4, U4⟩
    obtain ⟨z, hz, rfl⟩ : ∃ z, tl[j]? = some z ∧ V.str z = x := by
      rw [List.getElem?_map] at hx
      obtain ⟨x', h1, h2⟩ := Option.map_eq_some_iff.mp hx
      exact ⟨x', h1, h2⟩
    have hj : j < tl.length := (List.getElem?_eq_some_iff.mp hz).1
    have lti : ti.length = j := by
      have := congrArg List.length etl
      rw [List.length_map, List.length_take] at this
      omega
    refine ⟨rfl, ?_⟩
    refine ⟨_, rfl, _, rfl, b, 5, k + M * 1200000 + 699 - j, rfl, by decide, by decide, B4.less (by omega), fun d2 H5 b1 b2 B5 U5 => ?_⟩
    refine ⟨(by show 2 ≤ sizeLine; decide), fun p hp => ?_⟩
    have s6 := same_new hp (.tup [.str z, .int d2])
    have hD5 := U5 _ _ nDb hD4
    have e2 : ((d2.toNat : Nat) : Int) = d2 := Int.toNat_of_nonneg b1
    obtain ⟨ys4, hys4⟩ := B4.lst
    have kt : KeepT H4 (upd H5 p (.tup [.str z, .int d2])) := (KeepT.but hys4 U5).trans (.of s6)
    have hD6 := s6 _ _ hD5
    have k7 : KeepT (upd H5 p (.tup [.str z, .int d2])) (upd (upd H5 p (.tup [.str z, .int d2])) D (.lst (vs ++ [.ref p]))) := .upd hD6 (fun xs z => by cases z)
    have vl : vs.length = j := by rw [tin.1, lti]
    refine ⟨_, hD6, by omega, ti ++ [(z, d2.toNat)], vs ++ [.ref p], upd_same, ⟨by rw [List.length_append, List.length_append, tin.1]; rfl, fun i v e => ?_⟩, ?_, ?_, ?_, ?_⟩
    · by_cases hi : i < vs.length
      · rw [List.getElem?_append_left hi] at e
        obtain ⟨t', e1, p', e3, e4⟩ := tin.2 i v e
        refine ⟨t', ?_, p', e3, k7 _ _ (kt _ _ e4)⟩
        rw [List.getElem?_append_left (by rw [← tin.1]; exact hi)]
        exact e1
      · rw [List.getElem?_append_right (by omega)] at e
        have hi0 : i - vs.length = 0 := by
          rcases Nat.eq_zero_or_pos (i - vs.length) with z | z
          · exact z
          · rw [List.getElem?_eq_none (by show 1 ≤ _; omega)] at e
            cases e
        rw [hi0] at e
        cases e
        refine ⟨(z, d2.toNat), ?_, p, rfl, k7 _ _ ?_⟩
        · rw [List.getElem?_append_right (by rw [← tin.1]; omega), ← tin.1, hi0]
          rfl
        · show (upd H5 p (.tup [.str z, .int d2])) p = some (.tup [.str z, .int ((d2.toNat : Nat) : Int)])
          rw [e2]
          exact upd_same
    · rw [List.map_append, etl, List.take_add_one, hz]
      rfl
    · intro x hx'
      rcases List.mem_append.mp hx' with h | h
      · exact h4 x h
      · rw [List.mem_singleton.mp h]
        show d2.toNat ≤ 4
        omega
    · obtain ⟨x', y', z', e, rr⟩ := B5.same s6
      exact Bag.less ⟨x', y', z', by rw [upd_ne (Ne.symm nDb)]; exact e, rr⟩ (by omega)
    · intro a o na e
      rw [upd_ne (ne_of_none e hD)]
      exact s6 _ _ (U5 _ _ na (U4 _ _ na e))
  rintro H4 ⟨ti, tvs, hD4, tin, etl, h4, B4, U4⟩
  rw [List.length_map, List.take_length] at etl
  have hpn4 := U4 _ _ nnb hpn
  have lti : ti.length = tl.length := by rw [← etl, List.length_map]
  rw [List.length_map] at B4
  have tik : ∀ x ∈ ti, NmOk x.1 ∧ x.2 ≤ 4 := fun x hx => ⟨by
    have : x.1 ∈ tl := by rw [← etl]; exact List.mem_map_of_mem hx
    exact okt.each _ this, h4 x hx⟩
  have tnd : (ti.map Prod.fst).Nodup := by rw [etl]; exact okt.nd
  -- found
  refine ⟨Nat.zero_le _, fun l hl => ?_⟩
  have s5 := same_new hl (.lst [])
  have nlb : l ≠ b := fun z => by obtain ⟨ys, hy⟩ := B4.lst; rw [z, hy] at hl; cases hl
  have nlD : l ≠ D := fun z => by rw [z, hD4] at hl; cases hl
  have nlp : l ≠ pn := fun z => by rw [z, hpn4] at hl; cases hl
  refine ⟨_, rfl, D, rfl, ⟨_, SqL.of (s5 _ _ hD4)⟩, ?_⟩
  refine for_list (K := K) (a := D) (xs := tvs) (fun i σ H' => ∃ (us : List V) (Ws : List Wk) (y6 y7 y8 y9 y10 y11 : Option V), σ = [some (.ref b), some (.int (M : Nat)), some (.ref pt), some (.ref pn), some (.ref D), some (.ref l), y6, y7, y8, y9, y10, y11] ∧ H' l = some (.lst us) ∧ WksIn H' Ws us ∧ (∀ W ∈ Ws, W.ok ∧ ∀ st ∈ W.rows.starts, st ∈ ti) ∧ Ws.map (fun W => (W.name, W.names.length)) = ti.take i ∧
    Bag H' b (k + (M - i) * 1200000 + 600) ∧ But b H4 H') ?_ ?_ ?_ ?_
  · exact ⟨[], [], none, none, none, none, none, none, rfl, upd_same, ⟨rfl, fun i v e => (by simp at e)⟩, fun W h => (by cases h), rfl, (B4.same s5).less (by omega), .of s5⟩
  · rintro i σ H' _ ⟨_, _, _, _, _, _, _, _, _, _, _, _, _, _, U⟩
    exact SqL.of (U _ _ nDb hD4)
  · rintro i v σ H5 hv ⟨us, Ws, y6, y7, y8, y9, y10, y11, rfl, hl5, hW, hok, eti, B5, U5⟩
    obtain ⟨tt, htt, p, rfl, hp⟩ := tin.2 i v hv
    have hi : i < ti.length := (List.getElem?_eq_some_iff.mp htt).1
    have hiM : i < M := by omega
    have tm := tik tt (List.mem_of_getElem? htt)
    obtain ⟨ys4, hys4⟩ := B4.lst
    obtain ⟨ys5, hys5⟩ := B5.lst
    have kt45 : KeepT H4 H5 := .but hys4 U5
    have eB : k + (M - i) * 1200000 + 600 = k + (M - (i + 1)) * 1200000 + 600 + 1200000 := by
      rw [show M - i = (M - (i + 1)) + 1 by omega, Nat.succ_mul]
      omega
    rw [eB] at B5
    generalize hKK : k + (M - (i + 1)) * 1200000 + 600 = KK at B5
    refine ⟨p, _, rfl, SqT.of (kt45 _ _ hp), rfl, _, _, rfl, _, _, rfl, rfl, ?_⟩
    have hpn5 := U5 _ _ nnb hpn4
    -- at, handed
    refine ⟨_, rfl, b, 5, KK + 1190000, rfl, by decide, by decide, B5.less (by omega), fun at1 H6 a1' a2' B6 U6 => ?_⟩
    have ea : ((at1.toNat : Nat) : Int) = at1 := Int.toNat_of_nonneg a1'
    have hpn6 := U6 _ _ nnb hpn5
    have lnm' : (nm.map V.str).length = 5 := by rw [List.length_map, lnm]
    refine ⟨_, rfl, _, rfl, at1, rfl, pn, _, rfl, SqL.of hpn6, fun c1 hc1 => ?_⟩
    have ec1 : cutV (nm.map V.str) (some at1) none = (nm.drop at1.toNat).map V.str := by
      have := cutV_from (xs := nm.map V.str) (n := at1.toNat) (by rw [lnm']; omega)
      rw [ea] at this
      rw [this, List.map_drop]
    rw [ec1]
    have s7 := same_new hc1 (.lst ((nm.drop at1.toNat).map V.str))
    have h7 : (upd H6 c1 (.lst ((nm.drop at1.toNat).map V.str))) c1 = some (.lst ((nm.drop at1.toNat).map V.str)) := upd_same
    generalize upd H6 c1 (.lst ((nm.drop at1.toNat).map V.str)) = H7 at s7 h7
    refine ⟨_, rfl, _, rfl, at1, rfl, pn, _, rfl, SqL.of (s7 _ _ hpn6), fun c2 hc2 => ?_⟩
    have ec2 : cutV (nm.map V.str) none (some at1) = (nm.take at1.toNat).map V.str := by
      have := cutV_to (xs := nm.map V.str) (n := at1.toNat) (by rw [lnm']; omega)
      rw [ea] at this
      rw [this, List.map_take]
    rw [ec2]
    have s8 := same_new hc2 (.lst ((nm.take at1.toNat).map V.str))
    have h8 : (upd H7 c2 (.lst ((nm.take at1.toNat).map V.str))) c2 = some (.lst ((nm.take at1.toNat).map V.str)) := upd_same
    generalize upd H7 c2 (.lst ((nm.take at1.toNat).map V.str)) = H8 at s8 h8
    refine ⟨c1, c2, _, _, rfl, rfl, s8 _ _ h7, h8, ?_, fun c3 hc3 => ?_⟩
    · rw [List.length_map, List.length_map, List.length_drop, List.length_take]; omega
    rw [← List.map_append]
    have s9 := same_new hc3 (.lst ((nm.drop at1.toNat ++ nm.take at1.toNat).map V.str))
    have h9 : (upd H8 c3 (.lst ((nm.drop at1.toNat ++ nm.take at1.toNat).map V.str))) c3 = some (.lst ((nm.drop at1.toNat ++ nm.take at1.toNat).map V.str)) := upd_same
    generalize upd H8 c3 (.lst ((nm.drop at1.toNat ++ nm.take at1.toNat).map V.str)) = H9 at s9 h9
    have l5 : (nm.drop at1.toNat ++ nm.take at1.toNat).length = 5 := by rw [List.length_append, List.length_drop, List.length_take]; omega
    refine ⟨_, rfl, _, rfl, c3, _, rfl, SqL.of h9, fun c4 hc4 => ?_⟩
    have ec4 : cutV ((nm.drop at1.toNat ++ nm.take at1.toNat).map V.str) none (some ((tt.2 : Nat) : Int)) = (rot nm at1.toNat tt.2).map V.str := by
      rw [cutV_to (by rw [List.length_map, l5]; omega)]
      unfold rot
      rw [List.map_take]
    rw [ec4]
    have s10 := same_new hc4 (.lst ((rot nm at1.toNat tt.2).map V.str))
    refine ⟨c4, _, rfl, .inl ⟨SqL.of upd_same, fun pH hpH => ?_⟩⟩
    have s11 := same_new hpH (.tup ((rot nm at1.toNat tt.2).map V.str))
    have hH : (upd (upd H9 c4 (.lst ((rot nm at1.toNat tt.2).map V.str))) pH (.tup ((rot nm at1.toNat tt.2).map V.str))) pH = some (.tup ((rot nm at1.toNat tt.2).map V.str)) := upd_same
    have sA := s7.trans (s8.trans (s9.trans (s10.trans s11)))
    generalize upd (upd H9 c4 (.lst ((rot nm at1.toNat tt.2).map V.str))) pH (.tup ((rot nm at1.toNat tt.2).map V.str)) = HA at sA hH
    have BA := B6.same sA
    have UA : But b H5 HA := U6.trans (.of sA)
    obtain ⟨ysA, hysA⟩ := BA.lst
    -- room
    refine ⟨_, rfl, b, 10, KK + 1180000, rfl, by decide, by decide, BA.less (by omega), fun r1 HB c1' c2' BB UB => ?_⟩
    refine ⟨_, rfl, b, 1001, KK + 1170000, rfl, by decide, by decide, BB.less (by omega), fun r2 HC c3' c4' BC UC => ?_⟩
    refine ⟨(by show 4 ≤ sizeLine; decide), fun pl hpl => ?_⟩
    have sD := same_new hpl (.lst [.int 0, .int 1, .int r1, .int r2])
    have nplb : pl ≠ b := fun z => by obtain ⟨ys, hy⟩ := BC.lst; rw [z, hy] at hpl; cases hpl
    refine ⟨_, rfl, b, 4, KK + 1160000, rfl, by decide, by decide, (BC.same sD).less (by omega), fun r3 HE c5' c6' BE UE => ?_⟩
    have hpl' : HE pl = some (.lst [.int 0, .int 1, .int r1, .int r2]) := UE _ _ nplb upd_same
    have mr : ∃ room : Int, atI [V.int 0, V.int 1, V.int r1, V.int r2] r3 = some (.int room) ∧ 0 ≤ room ∧ room ≤ 1000 := by
      rcases (show r3 = 0 ∨ r3 = 1 ∨ r3 = 2 ∨ r3 = 3 by omega) with rfl | rfl | rfl | rfl
      · exact ⟨0, atI_nat (j := 0) rfl, by decide, by decide⟩
      · exact ⟨1, atI_nat (j := 1) rfl, by decide, by decide⟩
      · exact ⟨r1, atI_nat (j := 2) rfl, c1', by omega⟩
      · exact ⟨r2, atI_nat (j := 3) rfl, c3', by omega⟩
    obtain ⟨room, er, room0, room1⟩ := mr
    refine ⟨pl, _, _, _, rfl, rfl, SqL.of hpl', er, ?_⟩
    have UAE : But b HA HE := UB.trans (UC.trans ((But.of sD).trans UE))
    have U5E : But b H5 HE := UA.trans UAE
    have hpnE := U5E _ _ nnb hpn5
    have hDE := U5E _ _ nDb (U5 _ _ nDb hD4)
    have kt5E : KeepT H5 HE := .but hys5 U5E
    -- rows
    refine ⟨_, rfl, ?_⟩
    refine fun sd hsd => ?_
    have sE := same_new hsd (.dK [])
    refine ⟨_, rfl, _, rfl, upd_same, stK pn D 40, rfl, by show 3 ≤ 15; decide, ?_⟩
    have eM : mergeK [] (stK pn D 40) = stK pn D 40 := by
      unfold mergeK stK
      simp [putK, k_nl, k_tl, k_nt]
    have eU : upd (upd HE sd (.dK [])) sd (.dK (mergeK [] (stK pn D 40))) = upd HE sd (.dK (stK pn D 40)) := by
      rw [eM]
      funext a
      by_cases ha : a = sd
      · subst ha; rw [upd_same, upd_same]
      · rw [upd_ne ha, upd_ne ha, upd_ne ha]
    rw [eU]
    have sF := same_new hsd (.dK (stK pn D 40))
    have stF : StL (upd HE sd (.dK (stK pn D 40))) sd pn D 40 := upd_same
    generalize upd HE sd (.dK (stK pn D 40)) = HF at sF stF
    have rcF : RC HF b sd pn D nm ti := ⟨sF _ _ hpnE, ⟨tvs, sF _ _ hDE, tin.1, fun i v e => by
      obtain ⟨t', e1, p', e3, e4⟩ := tin.2 i v e
      exact ⟨t', e1, p', e3, sF _ _ (kt5E _ _ (kt45 _ _ e4))⟩⟩, nnb, nDb, by omega, by omega, fun s h => okn.each s h, by omega, by omega, tik⟩
    refine ⟨b, sd, pn, D, nm, ti, 40, KK, rfl, by decide, rcF, stF, (BE.same sF).less (by rw [rw3]; omega), fun pr xs rs HG hpr hR okR cR stR stG BG UG => ?_⟩
    obtain ⟨ysF, hysF⟩ := (BE.same sF).lst
    have ktFG : KeepT HF HG := .but2 hysF stF UG
    have UEG : But b HE HG := fun a o na e => UG a o na (ne_of_none e hsd) (sF _ _ e)
    have UAG : But b HA HG := UAE.trans UEG
    have U5G : But b H5 HG := U5E.trans UEG
    have hl' : HG l = some (.lst us) := U5G _ _ nlb hl5
    refine ⟨_, rfl, .inl ⟨rfl, _, SqL.of hl'⟩, ?_⟩
    refine ⟨_, rfl, _, rfl, _, rfl, _, rfl, (by show 5 ≤ sizeLine; decide), fun pw hpw => ?_⟩
    have sH := same_new hpw (.tup [.str "work", .str tt.1, .ref pH, .int room, .ref pr])
    have hlH := sH _ _ hl'
    have lW : Ws.length = i := by
      have := congrArg List.length eti
      rw [List.length_map, List.length_take] at this
      omega
    refine ⟨l, _, _, rfl, rfl, hlH, by rw [hW.1]; omega, ?_⟩
    have kI : KeepT (upd HG pw (.tup [.str "work", .str tt.1, .ref pH, .int room, .ref pr])) (upd (upd HG pw (.tup [.str "work", .str tt.1, .ref pH, .int room, .ref pr])) l (.lst (us ++ [.ref pw]))) := .upd hlH (fun xs z => by cases z)
    have ktAG : KeepT HA HG := .but hysA UAG
    have kt5G : KeepT H5 HG := .but hys5 U5G
    have W1 : WkIn (upd (upd HG pw (.tup [.str "work", .str tt.1, .ref pH, .int room, .ref pr])) l (.lst (us ++ [.ref pw]))) ⟨tt.1, rot nm at1.toNat tt.2, room, rs⟩ (.ref pw) :=
      ⟨pw, pH, pr, xs, rfl, kI _ _ upd_same, kI _ _ (sH _ _ (ktAG _ _ hH)), kI _ _ (sH _ _ hpr), (hR.same sH).keep kI⟩
    have rl : (rot nm at1.toNat tt.2).length = tt.2 := rot_len (by omega) (by omega)
    have W1ok : Wk.ok ⟨tt.1, rot nm at1.toNat tt.2, room, rs⟩ := ⟨tm.1, by rw [rl]; omega, fun s h => okn.each s (rot_mem h), rot_nd okn.nd, room0, room1, okR, cR⟩
    refine ⟨us ++ [.ref pw], Ws ++ [⟨tt.1, rot nm at1.toNat tt.2, room, rs⟩], _, _, _, _, _, _, rfl, upd_same, ⟨by rw [List.length_append, List.length_append, hW.1]; rfl, fun j v e => ?_⟩, ?_, ?_, ?_, ?_⟩
    · by_cases hj : j < us.length
      · rw [List.getElem?_append_left hj] at e
        obtain ⟨W, e1, e2⟩ := hW.2 j v e
        refine ⟨W, ?_, ((e2.keep kt5G).same sH).keep kI⟩
        rw [List.getElem?_append_left (by rw [← hW.1]; exact hj)]
        exact e1
      · rw [List.getElem?_append_right (by omega)] at e
        have hi0 : j - us.length = 0 := by
          rcases Nat.eq_zero_or_pos (j - us.length) with z | z
          · exact z
          · rw [List.getElem?_eq_none (by show 1 ≤ _; omega)] at e
            cases e
        rw [hi0] at e
        cases e
        refine ⟨_, ?_, W1⟩
        rw [List.getElem?_append_right (by rw [← hW.1]; omega), ← hW.1, hi0]
        rfl
    · intro W hW'
      rcases List.mem_append.mp hW' with h | h
      · exact hok W h
      · rw [List.mem_singleton.mp h]
        exact ⟨W1ok, stR⟩
    · rw [List.map_append, eti, List.take_add_one, htt]
      show ti.take i ++ [(tt.1, (rot nm at1.toNat tt.2).length)] = _
      rw [rl]
      rfl
    · obtain ⟨x', y', z', e, rr⟩ := BG.same sH
      exact ⟨x', y', z', by rw [upd_ne (Ne.symm nlb)]; exact e, rr⟩
    · intro a o na e
      have hal : a ≠ l := ne_of_none e hl
      rw [upd_ne hal]
      exact sH _ _ (U5G _ _ na (U5 _ _ na e))
  · rintro σ H5 ⟨us, Ws, y6, y7, y8, y9, y10, y11, rfl, hl5, hW, hok, eti, B5, U5⟩
    have eall : ti.take tvs.length = ti := List.take_of_length_le (by rw [tin.1]; exact Nat.le_refl _)
    rw [eall] at eti
    have lW : Ws.length = ti.length := by rw [← eti, List.length_map]
    have nmW : Ws.map Wk.name = ti.map Prod.fst := by rw [← eti, List.map_map]; rfl
    refine ⟨_, rfl, q l us Ws H5 ?_ hl5 hW ⟨by omega, fun W h => (hok W h).1, by rw [nmW]; exact tnd, fun W h st hst => ?_⟩ (by omega) (by omega) (B5.less (by omega)) (U1.trans (U2.trans (U3.trans (U4.trans U5))))⟩
    · cases z : H l with
      | none => rfl
      | some o =>
        have := U4 _ _ nlb (U3 _ _ nlb (U2 _ _ nlb (U1 _ _ nlb z)))
        rw [this] at hl
        cases hl
    · have hm := (hok W h).2 st hst
      rw [← eti] at hm
      obtain ⟨W', hW', e⟩ := List.mem_map.mp hm
      exact ⟨W', hW', by rw [← e], by rw [← e]⟩
end
end SH

set_option Elab.async false
set_option linter.all false
set_option maxRecDepth 100000
namespace SH
open PySem L2
/-! ### works as plain data -/
def Ex.dat : Ex → PyData
  | .num i => .tuple [.str "number", .int i]
  | .nam s => .tuple [.str "name", .str s]
  | .op g l r => .tuple [.str g.txt, l.dat, r.dat]
def optDat : Option Ex → PyData
  | none => .none
  | some e => e.dat
def Rs.dat : Rs → List PyData
  | .nil => []
  | .put x e t => .tuple [.str "put", .str x, e.dat] :: t.dat
  | .go w x f es t => .tuple [.str (goW w), .str x, .str f, .tuple (es.map Ex.dat)] :: t.dat
  | .wait x y oe t => .tuple [.str "wait", .str x, .str y, optDat oe] :: t.dat
  | .iff e a b t => .tuple [.str "if", e.dat, .tuple a.dat, .tuple b.dat] :: t.dat
  | .give w e t => .tuple [.str (giveW w), e.dat] :: t.dat
def Wk.dat (W : Wk) : PyData := .tuple [.str "work", .str W.name, .tuple (W.names.map PyData.str), .int W.room, .tuple W.rows.dat]
section
variable {K : PySem.W.Frag} {H : Hp}
theorem dp2 {a b : V} {c d : PyData} (h1 : Dp K H a c) (h2 : Dp K H b d) : DpAll K H [a, b] [c, d] := .cons h1 (.cons h2 .nil)
theorem dp3 {a b e : V} {c d f : PyData} (h1 : Dp K H a c) (h2 : Dp K H b d) (h3 : Dp K H e f) : DpAll K H [a, b, e] [c, d, f] := .cons h1 (dp2 h2 h3)
theorem dp4 {a b e g : V} {c d f i : PyData} (h1 : Dp K H a c) (h2 : Dp K H b d) (h3 : Dp K H e f) (h4 : Dp K H g i) : DpAll K H [a, b, e, g] [c, d, f, i] := .cons h1 (dp3 h2 h3 h4)
theorem Ex.dp : ∀ {e : Ex} {v : V}, TrIn H e v → Dp K H v e.dat
  | .num _, _, ⟨a, e, h⟩ => e ▸ .tup (SqT.of h) (dp2 (.str _) (.int _))
  | .nam _, _, ⟨a, e, h⟩ => e ▸ .tup (SqT.of h) (dp2 (.str _) (.str _))
  | .op _ _ _, _, ⟨a, x, y, e, h, l, r⟩ => e ▸ .tup (SqT.of h) (dp3 (.str _) (Ex.dp l) (Ex.dp r))
theorem exs_dp : ∀ {es : List Ex} {vs : List V}, TrsIn H es vs → DpAll K H vs (es.map Ex.dat)
  | [], _, e => by
    cases (show _ = [] from e)
    exact .nil
  | e :: es, _, ⟨v, r, k, h, t⟩ => k ▸ .cons (Ex.dp h) (exs_dp t)
theorem opt_dp : ∀ {oe : Option Ex} {v : V}, OptIn H oe v → Dp K H v (optDat oe)
  | none, _, e => by
    cases (show _ = V.non from e)
    exact .non
  | some e, _, h => Ex.dp h
theorem Rs.dp : ∀ {r : Rs} {vs : List V}, RsIn H r vs → DpAll K H vs r.dat
  | .nil, _, e => by
    cases (show _ = [] from e)
    exact .nil
  | .put _ _ t, _, ⟨a, v, r, k, h, e, q⟩ => k ▸ .cons (.tup (SqT.of h) (dp3 (.str _) (.str _) (Ex.dp e))) (Rs.dp q)
  | .go _ _ _ _ t, _, ⟨a, p, ws, r, k, h, hp, e, q⟩ => k ▸ .cons (.tup (SqT.of h) (dp4 (.str _) (.str _) (.str _) (.tup (SqT.of hp) (exs_dp e)))) (Rs.dp q)
  | .wait _ _ _ t, _, ⟨a, v, r, k, h, e, q⟩ => k ▸ .cons (.tup (SqT.of h) (dp4 (.str _) (.str _) (.str _) (opt_dp e))) (Rs.dp q)
  | .iff _ _ _ t, _, ⟨a, v, p, xs, p', ys, r, k, h, e, hp, A, hp', B, q⟩ => k ▸ .cons (.tup (SqT.of h) (dp4 (.str _) (Ex.dp e) (.tup (SqT.of hp) (Rs.dp A)) (.tup (SqT.of hp') (Rs.dp B)))) (Rs.dp q)
  | .give _ _ t, _, ⟨a, v, r, k, h, e, q⟩ => k ▸ .cons (.tup (SqT.of h) (dp2 (.str _) (Ex.dp e))) (Rs.dp q)
theorem strs_dp : ∀ (l : List Str), DpAll K H (l.map V.str) (l.map PyData.str)
  | [] => .nil
  | _ :: l => .cons (.str _) (strs_dp l)
theorem Wk.dp {W : Wk} {v : V} : WkIn H W v → Dp K H v W.dat
  | ⟨a, pn, pr, xs, e, h, hn, hp, q⟩ => e ▸ .tup (SqT.of h) (.cons (.str _) (dp4 (.str _) (.tup (SqT.of hn) (strs_dp _)) (.int _) (.tup (SqT.of hp) (Rs.dp q))))
theorem wks_dp : ∀ {Ws : List Wk} {vs : List V}, WksIn H Ws vs → DpAll K H vs (Ws.map Wk.dat)
  | [], [], _ => .nil
  | W :: Ws, v :: vs, h => by
    obtain ⟨W', e, k⟩ := h.2 0 v rfl
    cases e
    refine .cons (Wk.dp k) (wks_dp ⟨by have := h.1; simpa using this, fun i u hu => ?_⟩)
    obtain ⟨W', e, k⟩ := h.2 (i + 1) u (by simpa using hu)
    exact ⟨W', by simpa using e, k⟩
  | [], _ :: _, h => by have := h.1; simp at this
  | _ :: _, [], h => by have := h.1; simp at this
end
/-! ### it can lie anywhere -/
theorem fit_name {s : Str} (h : NmOk s) : PySem.PyData.canLay0 (.str s) = true := by
  show PySem.PyData.strOk s = true
  unfold PySem.PyData.strOk
  rw [Array.all_eq_true]
  intro i hi
  have q := h.1.2.2 s.cps[i] (by show _ ∈ s.cps.toList; exact Array.mem_toList_iff.mpr (Array.getElem_mem hi))
  exact decide_eq_true (by omega)
theorem lay_list (xs : List PyData) : PySem.PyData.canLayAll0 xs = xs.all PySem.PyData.canLay0 := by
  induction xs with
  | nil => rfl
  | cons x xs ih =>
    show (PySem.PyData.canLay0 x && PySem.PyData.canLayAll0 xs) = _
    rw [ih, List.all_cons]
theorem deep_list {n : Nat} : ∀ {xs : List PyData}, (∀ x ∈ xs, x.depth ≤ n) → PySem.PyData.depthAll xs ≤ n
  | [], _ => Nat.zero_le _
  | x :: xs, h => by
    show max x.depth (PySem.PyData.depthAll xs) ≤ n
    have h1 := h x (List.mem_cons_self ..)
    have h2 := deep_list fun y hy => h y (List.mem_cons_of_mem _ hy)
    omega
/-- can lie, and no deeper than n -/
def Fit (n : Nat) (d : PyData) : Prop := PySem.PyData.canLay0 d = true ∧ d.depth ≤ n
theorem Fit.up {n m : Nat} {d : PyData} (h : Fit n d) (k : n ≤ m) : Fit m d := ⟨h.1, Nat.le_trans h.2 k⟩
theorem fit_tup {n : Nat} {ds : List PyData} (h : ∀ d ∈ ds, Fit n d) : Fit (n + 1) (.tuple ds) := by
  refine ⟨?_, ?_⟩
  · show PySem.PyData.canLayAll0 ds = true
    rw [lay_list, List.all_eq_true]
    exact fun d hd => (h d hd).1
  · show PySem.PyData.depthAll ds + 1 ≤ n + 1
    have := deep_list (n := n) fun d hd => (h d hd).2
    omega
theorem fit_lst {n : Nat} {ds : List PyData} (h : ∀ d ∈ ds, Fit n d) : Fit (n + 1) (.list ds) := fit_tup h
theorem fit_str {n : Nat} {s : Str} (h : NmOk s) : Fit n (.str s) := ⟨fit_name h, Nat.zero_le _⟩
theorem fit_word {n : Nat} {s : Str} (h : PySem.PyData.strOk s = true) : Fit n (.str s) := ⟨h, Nat.zero_le _⟩
theorem fit_int {n : Nat} {i : Int} : Fit n (.int i) := ⟨rfl, Nat.zero_le _⟩
theorem all2 {p : PyData → Prop} {a b : PyData} (h1 : p a) (h2 : p b) : ∀ d ∈ [a, b], p d := fun d hd => by
  rcases List.mem_cons.mp hd with rfl | hd
  · exact h1
  · rw [List.mem_singleton.mp hd]
    exact h2
theorem all3 {p : PyData → Prop} {a b c : PyData} (h1 : p a) (h2 : p b) (h3 : p c) : ∀ d ∈ [a, b, c], p d := fun d hd => by
  rcases List.mem_cons.mp hd with rfl | hd
  · exact h1
  · exact all2 h2 h3 d hd
theorem all4 {p : PyData → Prop} {a b c e : PyData} (h1 : p a) (h2 : p b) (h3 : p c) (h4 : p e) : ∀ d ∈ [a, b, c, e], p d := fun d hd => by
  rcases List.mem_cons.mp hd with rfl | hd
  · exact h1
  · exact all3 h2 h3 h4 d hd
theorem Ex.fit : ∀ {n : Nat} {e : Ex}, Ex.fine n e → Fit n e.dat
  | 0, _, h => h.elim
  | n + 1, .num i, _ => fit_tup (all2 (fit_word (by decide +kernel)) fit_int)
  | n + 1, .nam s, h => fit_tup (all2 (fit_word (by decide +kernel)) (fit_str h))
  | n + 1, .op g l r, h => fit_tup (all3 (fit_word (by cases g <;> decide +kernel)) (Ex.fit h.1) (Ex.fit h.2))
theorem Rs.fit : ∀ (r : Rs) {n : Nat}, Rs.ok n r → ∀ d ∈ r.dat, Fit (8 + 2 * n) d
  | .nil, _, _ => fun d hd => by cases hd
  | .put x e t, n, h => fun d hd => by
    rcases List.mem_cons.mp hd with rfl | hd
    · exact (fit_tup (n := 6) (all3 (fit_word (by decide +kernel)) (fit_str h.1) (Ex.fit h.2.1))).up (by omega)
    · exact Rs.fit t h.2.2 d hd
  | .go w x f es t, n, h => fun d hd => by
    rcases List.mem_cons.mp hd with rfl | hd
    · exact (fit_tup (n := 7) (all4 (fit_word (by cases w <;> decide +kernel)) (fit_str h.1) (fit_str h.2.1) (fit_tup (n := 6) fun d hd => by
        obtain ⟨e, he, rfl⟩ := List.mem_map.mp hd
        exact Ex.fit (h.2.2.2.1 e he)))).up (by omega)
    · exact Rs.fit t h.2.2.2.2 d hd
  | .wait x y oe t, n, h => fun d hd => by
    rcases List.mem_cons.mp hd with rfl | hd
    · refine (fit_tup (n := 6) (all4 (fit_word (by decide +kernel)) (fit_str h.1) (fit_str h.2.1) ?_)).up (by omega)
      cases oe with
      | none => exact ⟨rfl, Nat.zero_le _⟩
      | some e => exact Ex.fit (h.2.2.1 e rfl)
    · exact Rs.fit t h.2.2.2 d hd
  | .iff e a b t, n, h => fun d hd => by
    rcases List.mem_cons.mp hd with rfl | hd
    · have hn := h.1
      exact (fit_tup (n := 9 + 2 * (n - 1)) (all4 (fit_word (by decide +kernel)) ((Ex.fit h.2.1).up (by omega)) (fit_tup (n := 8 + 2 * (n - 1)) (Rs.fit a h.2.2.1) |>.up (by omega)) (fit_tup (n := 8 + 2 * (n - 1)) (Rs.fit b h.2.2.2.1) |>.up (by omega)))).up (by omega)
    · exact Rs.fit t h.2.2.2.2 d hd
  | .give w e t, n, h => fun d hd => by
    rcases List.mem_cons.mp hd with rfl | hd
    · exact (fit_tup (n := 6) (all2 (fit_word (by cases w <;> decide +kernel)) (Ex.fit h.1))).up (by omega)
    · exact Rs.fit t h.2 d hd
theorem Wk.fit {W : Wk} (h : W.ok) : Fit 16 W.dat := fit_tup (n := 15) fun d hd => by
  rcases List.mem_cons.mp hd with rfl | hd
  · exact fit_word (by decide +kernel)
  · refine all4 (fit_str h.name) ((fit_tup (n := 1) fun d hd => ?_).up (by omega)) fit_int ((fit_tup (n := 14) (Rs.fit W.rows h.rows)).up (by omega)) d hd
    obtain ⟨s, hs, rfl⟩ := List.mem_map.mp hd
    exact fit_str (h.names s hs)
theorem shaped_of {n : Nat} {d : PyData} (h : Fit n d) (k : n ≤ 64) : SeqAt.shaped d = true := by
  unfold SeqAt.shaped
  rw [h.1, decide_eq_true (Nat.le_trans h.2 k)]
  rfl
/-- are these works equal to those? -/
def sameW (Ws Vs : List Wk) : Bool := PyData.eqv (.tuple (Ws.map Wk.dat)) (.tuple (Vs.map Wk.dat))
theorem sameW_list (Ws Vs : List Wk) : PyData.eqv (.list (Ws.map Wk.dat)) (.list (Vs.map Wk.dat)) = sameW Ws Vs := rfl
theorem wks_shaped {Ws : List Wk} (h : ∀ W ∈ Ws, W.ok) : SeqAt.shaped (.tuple (Ws.map Wk.dat)) = true ∧ SeqAt.shaped (.list (Ws.map Wk.dat)) = true := by
  have : ∀ d ∈ Ws.map Wk.dat, Fit 16 d := fun d hd => by
    obtain ⟨W, hW, rfl⟩ := List.mem_map.mp hd
    exact Wk.fit (h W hW)
  exact ⟨shaped_of (fit_tup this) (by decide), shaped_of (fit_lst this) (by decide)⟩
end SH

set_option Elab.async false
set_option linter.all false
set_option maxRecDepth 100000
namespace SH
open PySem L2
abbrev sBookNames : Stmt := inClass (topS 63) 1
abbrev sBookLen : Stmt := inClass (topS 63) 3
abbrev sBookEq : Stmt := inClass (topS 63) 4
theorem scBookNames : FnScope ["self", "work"] ["self"] (defScope sBookNames) := ⟨rfl, rfl, rfl, by decide +kernel, rfl, by decide +kernel, by decide +kernel⟩
theorem scBookLen : FnScope ["self"] ["self"] (defScope sBookLen) := ⟨rfl, rfl, rfl, by decide +kernel, rfl, by decide +kernel, by decide +kernel⟩
theorem scBookEq : FnScope ["self", "other"] ["self", "other"] (defScope sBookEq) := ⟨rfl, rfl, rfl, by decide +kernel, rfl, by decide +kernel, by decide +kernel⟩
def spBookNames (C : Addr) : Sp := fun vs H Q _ => ∃ (x : Addr) (Ws : List Wk), vs = [.ref x] ∧ BkIn H C x Ws ∧ Ws.length ≤ 100 ∧ ∀ D H', Same H H' → H D = none → H' D = some (.lst ((Ws.map Wk.name).map V.str)) → Q (.ref D) H'
def spBookLen (C : Addr) : Sp := fun vs H Q _ => ∃ (x : Addr) (Ws : List Wk), vs = [.ref x] ∧ BkIn H C x Ws ∧ Q (.int (Ws.length : Nat)) H
/-- what a class of one's own is taken for -/
structure BkE (K : PySem.W.Frag) (C : Addr) : Prop where
  ca : PySem.W.findIn K (.ref C) "__class__" = some (some (.builtin "object.__class__"))
  cg : PySem.W.specialIn K (.builtin "object.__class__") "__get__" = some (some (.builtin "getset_descriptor.__get__"))
  ct : PySem.W.takesIn K (.builtin "object.__class__") = some true
  ob : PySem.W.mroIn K C (.type "object") = some true
  li : PySem.W.kitOne K (.type "list") (.ref C) = some false
  tu : PySem.W.kitOne K (.type "tuple") (.ref C) = some false
  it : PySem.W.kitOne K (.type "int") (.ref C) = some false
  bo : PySem.W.kitOne K (.type "bool") (.ref C) = some false
  st : PySem.W.kitOne K (.type "str") (.ref C) = some false
  no : PySem.W.kitOne K (.type "NoneType") (.ref C) = some false
theorem BkE.alien {K : PySem.W.Frag} {C : Addr} (T : BkE K C) {H : Hp} {z : V} (h : Alien H z) : ∃ t, TyX K H z t ∧ PySem.W.kitOne K t (.ref C) = some false := by
  cases h with
  | non => exact ⟨_, .base .non, T.no⟩
  | bl b => exact ⟨_, .base (.bl b), T.bo⟩
  | int i => exact ⟨_, .base (.int i), T.it⟩
  | str z => exact ⟨_, .base (.str z), T.st⟩
  | lst e => exact ⟨_, .base (.lst e), T.li⟩
  | tup e => exact ⟨_, .base (.tup e), T.tu⟩
def spBookEq (C : Addr) : Sp := fun vs H Q _ => ∃ (x : Addr) (Ws : List Wk) (y : V), vs = [.ref x, y] ∧ BkIn H C x Ws ∧ (∀ W ∈ Ws, W.ok) ∧
  ((∃ (z : Addr) (Vs : List Wk), y = .ref z ∧ BkIn H C z Vs ∧ (∀ W ∈ Vs, W.ok) ∧ Q (.bl (sameW Ws Vs)) H) ∨ (Alien H y ∧ Q (.bl false) H))
section
variable {P : Program} {w : World} {K : PySem.W.Frag} {mg : Str → Option Value} {base : Heap}
theorem ok_bookNames {f C : Addr} {fd : FuncData} (F : Fun K "names" "Book.names" sBookNames f fd) (B : BkT K mg C) : FnOk P w K mg base CX0 1 f fd ["self"] (spBookNames C) := by
  refine F.ok scBookNames (fun vs H Q E h => ?_) (fun cdv A outer s H vs Q E hr h => ?_)
  · obtain ⟨x, Ws, rfl, _⟩ := h
    rfl
  obtain ⟨x, Ws, rfl, ⟨dx, p, us, hx, hp, hW⟩, h10, q⟩ := h
  refine ⟨_, (pss_one (ps_ret (pe_lc (own := [("work", 1)]) (g := gName 1) (tt := tYes) (by rfl) scBookNames.nd (pi_tup (pe_fld (pv 0) rfl)) (blkOk_by (own := [("work", 1)]) (N := ["self", "work"]) (sc := defScope sBookNames) (by decide +kernel)) (fun _ _ _ _ _ => pg_name (i := 1) scBookNames.nd rfl (Or.inl rfl)) (fun _ _ _ _ _ => pts_nil) (fun _ _ _ _ _ => pe_ix (ix_tupK K) (pv 1) pe_int (fun _ _ => rfl))))), ?_⟩
  have hs : sizeLine = 16777216 := by decide
  refine ⟨_, rfl, x, C, dx, _, _, rfl, hx, B.cl, B.nW, rfl, p, rfl, ⟨_, SqT.of hp⟩, ?_⟩
  intro D hD
  refine lc_tup (K := K) (a := p) (xs := us) (fun j H' => H' D = some (.lst (((Ws.take j).map Wk.name).map V.str)) ∧ Same H H') ⟨upd_same, same_new hD _⟩ (fun j H' _ h => SqT.of (h.2 _ _ hp)) ?_ ?_
  · rintro j v H1 hv ⟨hD1, s1⟩
    obtain ⟨W, hWi, hin⟩ := hW.2 j v hv
    have hj : j < Ws.length := (List.getElem?_eq_some_iff.mp hWi).1
    obtain ⟨a, pn, pr, xs, rfl, ha, _⟩ := hin.same s1
    refine ⟨rfl, ?_⟩
    refine ⟨_, rfl, a, _, 1, _, rfl, rfl, SqT.of ha, rfl, ?_⟩
    refine ⟨_, hD1, by rw [List.length_map, List.length_map, List.length_take]; omega, ?_, ?_⟩
    · rw [upd_same, List.take_add_one, hWi, List.map_append, List.map_append]
      rfl
    · intro y o z
      rw [upd_ne (ne_of_none z hD)]
      exact s1 _ _ z
  · rintro H1 ⟨hD1, s1⟩
    rw [hW.1, List.take_length] at hD1
    exact q D H1 s1 hD hD1
theorem ok_bookLen {f C : Addr} {fd : FuncData} (F : Fun K "__len__" "Book.__len__" sBookLen f fd) (B : BkT K mg C) (T : Bi mg) : FnOk P w K mg base CX0 1 f fd ["self"] (spBookLen C) := by
  refine F.ok scBookLen (fun vs H Q E h => ?_) (fun cdv A outer s H vs Q E hr h => ?_)
  · obtain ⟨x, Ws, rfl, _⟩ := h
    rfl
  obtain ⟨x, Ws, rfl, ⟨dx, p, us, hx, hp, hW⟩, q⟩ := h
  refine ⟨_, (pss_one (ps_ret (pe_callB call_len_seq (by rfl) T.len (by decide +kernel) (pa_cons (pe_fld (pv 0) rfl) pa_nil)))), ?_⟩
  refine ⟨_, rfl, x, C, dx, _, _, rfl, hx, B.cl, B.nW, rfl, p, us, rfl, .inr (SqT.of hp), ?_⟩
  rw [hW.1]
  exact q
theorem ok_bookEq {f C : Addr} {fd : FuncData} (F : Fun K "__eq__" "Book.__eq__" sBookEq f fd) (B : BkT K mg C) (E : BkE K C) (T : Bi mg) : FnOk P w K mg base CX0 1 f fd ["self", "other"] (spBookEq C) := by
  refine F.ok scBookEq (fun vs H Q E h => ?_) (fun cdv A outer s H vs Q E' hr h => ?_)
  · obtain ⟨x, Ws, y, rfl, _⟩ := h
    rfl
  obtain ⟨x, Ws, y, rfl, ⟨dx, p, us, hx, hp, hW⟩, ok, h⟩ := h
  refine ⟨_, (pss_one (ps_ret (pe_and (pe_callB call_isi (by rfl) T.isinstance (by decide +kernel) (pa_cons (pv 1) (pa_cons (pe_glob (v := .ref C) rfl B.mgC rfl) pa_nil))) (pe_one (pe_cmpR (op_eqD hr.units) (pe_fld (pv 0) rfl) (pe_fld (pv 1) rfl) (nomark _)))))), ?_⟩
  rcases h with ⟨z, Vs, rfl, ⟨dz, p', us', hz, hp', hV⟩, ok', q⟩ | ⟨al, q⟩
  · refine ⟨_, rfl, .ref z, .ref C, .ref C, .ref C, true, rfl, .own C, .base (.ins hz B.cl E.ca E.cg E.ct E.ob), by unfold PySem.W.kitOne; rw [if_pos (by simp)], ?_⟩
    exact ⟨true, rfl, _, rfl, x, C, dx, _, _, rfl, hx, B.cl, B.nW, rfl, _, rfl, z, C, dz, _, _, rfl, hz, B.cl, B.nW, rfl, _, _, .tup (SqT.of hp) (wks_dp hW), .tup (SqT.of hp') (wks_dp hV), (wks_shaped ok).1, (wks_shaped ok').1, q⟩
  · obtain ⟨t, ty, no⟩ := E.alien al
    refine ⟨_, rfl, y, .ref C, t, .ref C, false, rfl, .own C, ty, no, ?_⟩
    exact ⟨false, rfl, q⟩
end
section
variable {X : Cx}
/-- len(x) by an own __len__ -/
def rLenOwn (C : Addr) (sp : Sp) : List V → Hp → VK → Prop := fun xs H Q => ∃ (a dx : Addr) (fs : List (Str × V)), xs = [V.ref a] ∧ H a = some (.ins C dx fs) ∧ sp [.ref a] H (fun v H' => ∃ n : Nat, v = .int (n : Int) ∧ n < 1000000 ∧ Q v H') E0
theorem call_lenOwn {C g : Addr} {gd : FuncData} {n : Nat} {sp : Sp} (hs : PySem.W.findIn X.K (.ref C) "__len__" = some (some (.ref g))) (hf : PySem.W.isFn X.K (.ref g) = true) (F : FnOk X.prog X.w X.K X.mg X.base CX0 n g gd ["self"] sp) (hb : Binds X.K gd ["self"] []) (hr : Room (n + 1) X.A) : CallR X (.builtin "len") (rLenOwn C sp) := by
  intro pins s σ H xs us Q I r h
  obtain ⟨a, dx, fs, rfl, ha, q⟩ := h
  obtain ⟨u, rfl, ru⟩ := vals1 r
  cases ru
  obtain ⟨mA, om, _⟩ := ins_get I.hok ha
  obtain ⟨od, J, _⟩ := om.look
  obtain ⟨m, hF⟩ := I.fr
  have rv : Vals [V.ref a] [Value.ref a] := .cons rfl .nil
  refine PySem.W.len_K hF I.ok.mod.kin J hs hf (wpAny_call (codeAny_mono (F.run X.A.in1 X.stack s H ⟨[.ref a], []⟩ [.ref a] [.ref a] _ E0 hr.in1 I.env0.in1 (hb s [.ref a] I.kIn rfl) rv q) fun r z hq => ?_))
  cases r with
  | error e => exact hq.elim
  | ok fl =>
    cases fl with
    | ret v =>
      obtain ⟨y, H', J2, ry, t, ey, lt, fin⟩ := I.after hq
      subst ey
      obtain ⟨tk, rfl⟩ := (show ∃ tk, v = Value.int t tk from ry)
      exact ⟨⟨by omega, by omega⟩, .int t, H', J2.tok _, ⟨_, rfl⟩, fin⟩
    | _ => exact False.elim hq
end
end SH

set_option Elab.async false
set_option linter.all false
set_option maxRecDepth 100000
namespace SH
open PySem L2
abbrev sBookTree : Stmt := inClass (topS 63) 2
abbrev sBookRepr : Stmt := inClass (topS 63) 6
abbrev sRefusal : Stmt := topS 74
abbrev sSaid : Stmt := topS 75
theorem scBookTree : FnScope ["self", "name", "work"] ["self", "name"] (defScope sBookTree) := ⟨rfl, rfl, rfl, by decide +kernel, rfl, by decide +kernel, by decide +kernel⟩
theorem scBookRepr : FnScope ["self"] ["self"] (defScope sBookRepr) := ⟨rfl, rfl, rfl, by decide +kernel, rfl, by decide +kernel, by decide +kernel⟩
theorem scRefusal : FnScope ["_law_e", "_law_some", "_law_names_here", "_law_name", "_law_above", "_law_due"] ["_law_e"] (defScope sRefusal) := ⟨rfl, rfl, rfl, by decide +kernel, rfl, by decide +kernel, by decide +kernel⟩
theorem scSaid : FnScope ["_law_book", "_law_name", "_law_e"] ["_law_book", "_law_name"] (defScope sSaid) := ⟨rfl, rfl, rfl, by decide +kernel, rfl, by decide +kernel, by decide +kernel⟩
/-- how Missing stands to all that is asked of it -/
structure ErK (K : PySem.W.Frag) (CM cBadText cBadTree cBadArgs cBadHall cBadTurn cNoRow cMissing cBare cSpent cBroken cStealError : Addr) : Prop where
  kBadText : PySem.W.kitOne K (.ref CM) (.ref cBadText) = some false
  kBadTree : PySem.W.kitOne K (.ref CM) (.ref cBadTree) = some false
  kBadArgs : PySem.W.kitOne K (.ref CM) (.ref cBadArgs) = some false
  kBadHall : PySem.W.kitOne K (.ref CM) (.ref cBadHall) = some false
  kBadTurn : PySem.W.kitOne K (.ref CM) (.ref cBadTurn) = some false
  kNoRow : PySem.W.kitOne K (.ref CM) (.ref cNoRow) = some false
  kMissing : PySem.W.kitOne K (.ref CM) (.ref cMissing) = some true
  kBare : PySem.W.kitOne K (.ref CM) (.ref cBare) = some false
  kSpent : PySem.W.kitOne K (.ref CM) (.ref cSpent) = some false
  kBroken : PySem.W.kitOne K (.ref CM) (.ref cBroken) = some false
  kStealError : PySem.W.kitOne K (.ref CM) (.ref cStealError) = some false
  kValueError : PySem.W.kitOne K (.ref CM) (.type "ValueError") = some false
  kLookupError : PySem.W.kitOne K (.ref CM) (.type "LookupError") = some true
  kRuntimeError : PySem.W.kitOne K (.ref CM) (.type "RuntimeError") = some false
  kArithmeticError : PySem.W.kitOne K (.ref CM) (.type "ArithmeticError") = some false
  kKeyError : PySem.W.kitOne K (.ref CM) (.type "KeyError") = some false
  kIndexError : PySem.W.kitOne K (.ref CM) (.type "IndexError") = some false
  kZeroDivisionError : PySem.W.kitOne K (.ref CM) (.type "ZeroDivisionError") = some false
def spBookTree (C CM : Addr) : Sp := fun vs H Q E => ∃ (x : Addr) (Ws : List Wk) (nm : Str), vs = [.ref x, .str nm] ∧ BkIn H C x Ws ∧ nm.length ≤ 100000 ∧ (∀ v W, W ∈ Ws → W.name = nm → WkIn H W v → Q v H) ∧
  ((∀ W ∈ Ws, W.name ≠ nm) → ∀ d, H d = none → E (.ref CM) (some d) (upd H d (.xd [("name", .str nm)])))
def spRefusal (CM : Addr) : Addr → Value → Option Addr → Sp := fun a cls d vs H Q _ => ∃ (dd : Addr) (fs : List (Str × V)), cls = .ref CM ∧ d = some dd ∧ vs = [.ref a] ∧ H dd = some (.xd fs) ∧ ∀ H', Same H H' → Q (.str "missing") H'
def spSaid (C : Addr) : Sp := fun vs H Q _ => ∃ (x : Addr) (Ws : List Wk) (nm : Str), vs = [.ref x, .str nm] ∧ BkIn H C x Ws ∧ nm.length ≤ 100000 ∧ (∀ v W, W ∈ Ws → W.name = nm → WkIn H W v → Q v H) ∧
  ((∀ W ∈ Ws, W.name ≠ nm) → ∀ p H', Same H H' → H' p = some (.tup [.str "missing", .str nm]) → Q (.ref p) H')
section
variable {P : Program} {w : World} {K : PySem.W.Frag} {mg : Str → Option Value} {base : Heap}
theorem ok_bookTree {f C CM fM : Addr} {fd : FuncData} {B newId i : String} {bmB : List Value} (F : Fun K "tree" "Book.tree" sBookTree f fd) (BT : BkT K mg C) (TM : SupC P K mg "Missing" "name" CM fM B newId i bmB) : FnOk P w K mg base (L2.CX P w) 2 f fd ["self", "name"] (spBookTree C CM) := by
  refine F.okX scBookTree (fun vs H Q E h => ?_) (fun cdv A outer s H vs Q E hr h => ?_)
  · obtain ⟨x, Ws, nm, rfl, _⟩ := h
    rfl
  obtain ⟨x, Ws, nm, rfl, ⟨dx, p, us, hx, hp, hW⟩, ln, found, lost⟩ := h
  refine ⟨_, (pss_cons (ps_for (passes_of rfl) rfl (pi_tup (pe_fld (pv 0) rfl)) (pg_name (i := 2) scBookTree.nd rfl (.inl rfl)) (pss_one (ps_if (pt_cmpR op_eq (pe_ix ix_tup (pv 2) pe_int (fun _ _ => rfl)) (pv 1) (nomark _)) (pss_one (ps_ret (pv 2))) pss_nil)))
    (pss_one (ps_raiseS rfl TM hr (takes_of rfl rfl rfl rfl) (pa_cons (pv 1) pa_nil) rfl))), ?_⟩
  refine ⟨_, rfl, x, C, dx, _, _, rfl, hx, BT.cl, BT.nW, rfl, p, rfl, ⟨_, SqT.of hp⟩, ?_⟩
  refine for_tup (K := K) (a := p) (xs := us) (fun i σ H' => ∃ y : Option V, σ = [some (.ref x), some (.str nm), y] ∧ H' = H ∧ ∀ j, j < i → ∀ W, Ws[j]? = some W → W.name ≠ nm) ⟨none, rfl, rfl, fun j hj => absurd hj (Nat.not_lt_zero _)⟩ (fun i σ H' _ ⟨_, _, e, _⟩ => by rw [e]; exact SqT.of hp) ?_ ?_
  · rintro i v σ H1 hv ⟨y, rfl, rfl, none_⟩
    obtain ⟨W, hWi, hin⟩ := hW.2 i v hv
    obtain ⟨a, pn, pr, xs, rfl, ha, hpn, hpr, hR⟩ := hin
    refine ⟨_, rfl, a, _, 1, _, rfl, rfl, SqT.of ha, atI_nat (j := 1) rfl, _, rfl, rfl, _, rfl, ?_⟩
    refine ite2 (fun c => ?_) (fun c => ?_)
    · have e := V.str.inj (of_decide_eq_true c)
      exact ⟨_, rfl, found _ W (List.mem_of_getElem? hWi) e ⟨a, pn, pr, xs, rfl, ha, hpn, hpr, hR⟩⟩
    · refine ⟨_, rfl, rfl, fun j hj W' hW' => ?_⟩
      by_cases e : j = i
      · subst e
        have : W' = W := Option.some.inj (hW'.symm.trans hWi)
        subst this
        exact fun z => c (decide_eq_true (by rw [z]))
      · exact none_ j (by omega) W' hW'
  · rintro σ H1 ⟨y, rfl, rfl, none_⟩
    refine ⟨_, rfl, _, rfl, .inl ⟨nm, rfl, ln⟩, fun d hd => lost (fun W hWm => ?_) d hd⟩
    obtain ⟨j, hj, e⟩ := List.mem_iff_getElem.mp hWm
    exact none_ j (by rw [hW.1]; exact hj) W (by rw [List.getElem?_eq_getElem hj, e])
theorem ok_refusal {f CM cBadText cBadTree cBadArgs cBadHall cBadTurn cNoRow cMissing cBare cSpent cBroken cStealError : Addr} {fd : FuncData} (F : Fun K "_law_refusal" "_law_refusal" sRefusal f fd) (EC : ErC K CM) (EK : ErK K CM cBadText cBadTree cBadArgs cBadHall cBadTurn cNoRow cMissing cBare cSpent cBroken cStealError) (T : Bi mg) (gBadText : mg "BadText" = some (.ref cBadText)) (gBadTree : mg "BadTree" = some (.ref cBadTree)) (gBadArgs : mg "BadArgs" = some (.ref cBadArgs)) (gBadHall : mg "BadHall" = some (.ref cBadHall)) (gBadTurn : mg "BadTurn" = some (.ref cBadTurn)) (gNoRow : mg "NoRow" = some (.ref cNoRow)) (gMissing : mg "Missing" = some (.ref cMissing)) (gBare : mg "Bare" = some (.ref cBare)) (gSpent : mg "Spent" = some (.ref cSpent)) (gBroken : mg "Broken" = some (.ref cBroken)) (gStealError : mg "StealError" = some (.ref cStealError)) (q_ValueError : mg "ValueError" = none) (q_LookupError : mg "LookupError" = none) (q_RuntimeError : mg "RuntimeError" = none) (q_ArithmeticError : mg "ArithmeticError" = none) (q_KeyError : mg "KeyError" = none) (q_IndexError : mg "IndexError" = none) (q_ZeroDivisionError : mg "ZeroDivisionError" = none) : FnE P w K mg base 2 f fd ["_law_e"] (spRefusal CM) := by
  refine okE F scRefusal (fun a cls d vs H Q E h => ?_) (fun cdv A outer s H vs Q E p cls d hz hf hr h => ?_)
  · obtain ⟨dd, fs, _, _, rfl, _⟩ := h
    rfl
  obtain ⟨dd, fs, rfl, rfl, rfl, hd, q⟩ := h
  obtain ⟨a, oe⟩ := p
  refine ⟨_, (pss_cons (ps_set (i := 1) scRefusal.nd rfl (Or.inl rfl) (pe_lst (pa_cons (pe_callB (call_isP EC hz hf List.mem_cons_self) (by rfl) T.isinstance (by decide +kernel) (pa_cons (pv 0) (pa_cons (pe_glob (v := .ref cBadText) rfl gBadText rfl) pa_nil))) (pa_cons (pe_callB (call_isP EC hz hf List.mem_cons_self) (by rfl) T.isinstance (by decide +kernel) (pa_cons (pv 0) (pa_cons (pe_glob (v := .ref cBadTree) rfl gBadTree rfl) pa_nil))) (pa_cons (pe_callB (call_isP EC hz hf List.mem_cons_self) (by rfl) T.isinstance (by decide +kernel) (pa_cons (pv 0) (pa_cons (pe_glob (v := .ref cBadArgs) rfl gBadArgs rfl) pa_nil))) (pa_cons (pe_callB (call_isP EC hz hf List.mem_cons_self) (by rfl) T.isinstance (by decide +kernel) (pa_cons (pv 0) (pa_cons (pe_glob (v := .ref cBadHall) rfl gBadHall rfl) pa_nil))) pa_nil))))))
    (pss_cons (ps_set (i := 1) scRefusal.nd rfl (Or.inl rfl) (pe_op op_cat (pv 1) (pe_lst (pa_cons (pe_callB (call_isP EC hz hf List.mem_cons_self) (by rfl) T.isinstance (by decide +kernel) (pa_cons (pv 0) (pa_cons (pe_glob (v := .ref cBadTurn) rfl gBadTurn rfl) pa_nil))) (pa_cons (pe_callB (call_isP EC hz hf List.mem_cons_self) (by rfl) T.isinstance (by decide +kernel) (pa_cons (pv 0) (pa_cons (pe_glob (v := .ref cNoRow) rfl gNoRow rfl) pa_nil))) (pa_cons (pe_callB (call_isP EC hz hf List.mem_cons_self) (by rfl) T.isinstance (by decide +kernel) (pa_cons (pv 0) (pa_cons (pe_glob (v := .ref cMissing) rfl gMissing rfl) pa_nil))) (pa_cons (pe_callB (call_isP EC hz hf List.mem_cons_self) (by rfl) T.isinstance (by decide +kernel) (pa_cons (pv 0) (pa_cons (pe_glob (v := .ref cBare) rfl gBare rfl) pa_nil))) pa_nil)))))))
    (pss_cons (ps_set (i := 1) scRefusal.nd rfl (Or.inl rfl) (pe_op op_cat (pv 1) (pe_lst (pa_cons (pe_callB (call_isP EC hz hf List.mem_cons_self) (by rfl) T.isinstance (by decide +kernel) (pa_cons (pv 0) (pa_cons (pe_glob (v := .ref cSpent) rfl gSpent rfl) pa_nil))) (pa_cons (pe_callB (call_isP EC hz hf List.mem_cons_self) (by rfl) T.isinstance (by decide +kernel) (pa_cons (pv 0) (pa_cons (pe_glob (v := .ref cBroken) rfl gBroken rfl) pa_nil))) pa_nil)))))
    (pss_cons (ps_set (i := 2) scRefusal.nd rfl (Or.inl rfl) (pe_lst (pa_cons pe_str (pa_cons pe_str (pa_cons pe_str (pa_cons pe_str (pa_cons pe_str (pa_cons pe_str (pa_cons pe_str (pa_cons pe_str (pa_cons pe_str (pa_cons pe_str pa_nil))))))))))))
    (pss_cons (ps_if (pt_cmpR op_ne (pe_bm PySem.F.plainAttrs_list PySem.F.slot_list_count PySem.F.type_list_count mt_countF (pv 1) (pa_cons pe_bl pa_nil)) pe_int (nomark _))
      (pss_one (ps_ret pe_str))
      pss_nil)
    (pss_cons (ps_set (i := 3) scRefusal.nd rfl (Or.inl rfl) (pe_ix ix_list (pv 2) (pe_bm PySem.F.plainAttrs_list PySem.F.slot_list_index PySem.F.type_list_index mt_index (pv 1) (pa_cons pe_bl pa_nil)) (fun _ _ => rfl)))
    (pss_cons (ps_set (i := 4) scRefusal.nd rfl (Or.inl rfl) (pe_lst (pa_cons (pe_callB (call_isP EC hz hf List.mem_cons_self) (by rfl) T.isinstance (by decide +kernel) (pa_cons (pv 0) (pa_cons (pe_glob (v := .ref cStealError) rfl gStealError rfl) pa_nil))) (pa_cons (pe_callB (call_isP EC hz hf List.mem_cons_self) (by rfl) T.isinstance (by decide +kernel) (pa_cons (pv 0) (pa_cons (pe_bltn (v := .ty "ValueError") (by rfl) q_ValueError (by decide +kernel) rfl) pa_nil))) (pa_cons (pe_callB (call_isP EC hz hf List.mem_cons_self) (by rfl) T.isinstance (by decide +kernel) (pa_cons (pv 0) (pa_cons (pe_bltn (v := .ty "LookupError") (by rfl) q_LookupError (by decide +kernel) rfl) pa_nil))) pa_nil)))))
    (pss_cons (ps_set (i := 4) scRefusal.nd rfl (Or.inl rfl) (pe_op op_cat (pv 4) (pe_lst (pa_cons (pe_callB (call_isP EC hz hf List.mem_cons_self) (by rfl) T.isinstance (by decide +kernel) (pa_cons (pv 0) (pa_cons (pe_bltn (v := .ty "RuntimeError") (by rfl) q_RuntimeError (by decide +kernel) rfl) pa_nil))) (pa_cons (pe_callB (call_isP EC hz hf List.mem_cons_self) (by rfl) T.isinstance (by decide +kernel) (pa_cons (pv 0) (pa_cons (pe_bltn (v := .ty "ArithmeticError") (by rfl) q_ArithmeticError (by decide +kernel) rfl) pa_nil))) pa_nil)))))
    (pss_cons (ps_set (i := 5) scRefusal.nd rfl (Or.inl rfl) (pe_lst (pa_cons pe_bl (pa_cons pe_bl (pa_cons pe_bl (pa_cons pe_bl (pa_cons pe_bl pa_nil)))))))
    (pss_cons (ps_if (pt_cmpR op_in_seq (pv 3) (pe_lst (pa_cons pe_str (pa_cons pe_str (pa_cons pe_str (pa_cons pe_str pa_nil))))) rfl)
      (pss_one (ps_set (i := 5) scRefusal.nd rfl (Or.inl rfl) (pe_lst (pa_cons pe_bl (pa_cons pe_bl (pa_cons (pe_cmpR op_in_seq (pv 3) (pe_lst (pa_cons pe_str (pa_cons pe_str pa_nil))) rfl) (pa_cons (pe_cmpR op_eq (pv 3) pe_str (nomark _)) (pa_cons (pe_cmpR op_eq (pv 3) pe_str (nomark _)) pa_nil))))))))
      pss_nil)
    (pss_cons (ps_if (PW.pt (pw_or (pt_val (pe_callB (call_isP EC hz hf List.mem_cons_self) (by rfl) T.isinstance (by decide +kernel) (pa_cons (pv 0) (pa_cons (pe_bltn (v := .ty "KeyError") (by rfl) q_KeyError (by decide +kernel) rfl) pa_nil)))) (pw_or (pt_val (pe_callB (call_isP EC hz hf List.mem_cons_self) (by rfl) T.isinstance (by decide +kernel) (pa_cons (pv 0) (pa_cons (pe_bltn (v := .ty "IndexError") (by rfl) q_IndexError (by decide +kernel) rfl) pa_nil)))) (pw_or1 (pt_val (pe_callB (call_isP EC hz hf List.mem_cons_self) (by rfl) T.isinstance (by decide +kernel) (pa_cons (pv 0) (pa_cons (pe_bltn (v := .ty "ZeroDivisionError") (by rfl) q_ZeroDivisionError (by decide +kernel) rfl) pa_nil))))))))
      (pss_one (ps_ret pe_str))
      pss_nil)
    (pss_one (ps_ret (pe_ifExp (pt_cmpR (op_eqD (unH hr)) (pv 4) (pv 5) (nomark _)) (pv 3) pe_str)))))))))))))), ?_⟩
  have hs : sizeLine = 16777216 := by decide
  refine ⟨_, rfl, .ref cBadText, .ref cBadText, false, fs, rfl, (fun _ r => r), hd, EK.kBadText, _, rfl, .ref cBadTree, .ref cBadTree, false, fs, rfl, (fun _ r => r), hd, EK.kBadTree, _, rfl, .ref cBadArgs, .ref cBadArgs, false, fs, rfl, (fun _ r => r), hd, EK.kBadArgs, _, rfl, .ref cBadHall, .ref cBadHall, false, fs, rfl, (fun _ r => r), hd, EK.kBadHall, (by show 4 ≤ sizeLine; decide), fun l1 n1 => ?_⟩
  have s1 := same_new n1 (.lst [V.bl false, V.bl false, V.bl false, V.bl false])
  have h1 := upd_same (H := H) (a := l1) (o := .lst [V.bl false, V.bl false, V.bl false, V.bl false])
  generalize upd H l1 (.lst [V.bl false, V.bl false, V.bl false, V.bl false]) = H1 at s1 h1
  refine ⟨_, rfl, _, rfl, .ref cBadTurn, .ref cBadTurn, false, fs, rfl, (fun _ r => r), (s1 _ _ hd), EK.kBadTurn, _, rfl, .ref cNoRow, .ref cNoRow, false, fs, rfl, (fun _ r => r), (s1 _ _ hd), EK.kNoRow, _, rfl, .ref cMissing, .ref cMissing, true, fs, rfl, (fun _ r => r), (s1 _ _ hd), EK.kMissing, _, rfl, .ref cBare, .ref cBare, false, fs, rfl, (fun _ r => r), (s1 _ _ hd), EK.kBare, (by show 4 ≤ sizeLine; decide), fun l2 n2 => ?_⟩
  have s2 := same_new n2 (.lst [V.bl false, V.bl false, V.bl true, V.bl false])
  have h2 := upd_same (H := H1) (a := l2) (o := .lst [V.bl false, V.bl false, V.bl true, V.bl false])
  generalize upd H1 l2 (.lst [V.bl false, V.bl false, V.bl true, V.bl false]) = H2 at s2 h2
  refine ⟨l1, l2, _, _, rfl, rfl, s2 _ _ h1, h2, (by show 8 ≤ sizeLine; decide), fun l3 n3 => ?_⟩
  have s3 := same_new n3 (.lst ([V.bl false, V.bl false, V.bl false, V.bl false] ++ [V.bl false, V.bl false, V.bl true, V.bl false]))
  have h3 := upd_same (H := H2) (a := l3) (o := .lst ([V.bl false, V.bl false, V.bl false, V.bl false] ++ [V.bl false, V.bl false, V.bl true, V.bl false]))
  generalize upd H2 l3 (.lst ([V.bl false, V.bl false, V.bl false, V.bl false] ++ [V.bl false, V.bl false, V.bl true, V.bl false])) = H3 at s3 h3
  have s13 := s1.trans (s2.trans s3)
  refine ⟨_, rfl, _, rfl, .ref cSpent, .ref cSpent, false, fs, rfl, (fun _ r => r), (s13 _ _ hd), EK.kSpent, _, rfl, .ref cBroken, .ref cBroken, false, fs, rfl, (fun _ r => r), (s13 _ _ hd), EK.kBroken, (by show 2 ≤ sizeLine; decide), fun l4 n4 => ?_⟩
  have s4 := same_new n4 (.lst [V.bl false, V.bl false])
  have h4 := upd_same (H := H3) (a := l4) (o := .lst [V.bl false, V.bl false])
  generalize upd H3 l4 (.lst [V.bl false, V.bl false]) = H4 at s4 h4
  refine ⟨l3, l4, _, _, rfl, rfl, s4 _ _ h3, h4, (by show 10 ≤ sizeLine; decide), fun l5 n5 => ?_⟩
  have s5 := same_new n5 (.lst (([V.bl false, V.bl false, V.bl false, V.bl false] ++ [V.bl false, V.bl false, V.bl true, V.bl false]) ++ [V.bl false, V.bl false]))
  have h5 := upd_same (H := H4) (a := l5) (o := .lst (([V.bl false, V.bl false, V.bl false, V.bl false] ++ [V.bl false, V.bl false, V.bl true, V.bl false]) ++ [V.bl false, V.bl false]))
  generalize upd H4 l5 (.lst (([V.bl false, V.bl false, V.bl false, V.bl false] ++ [V.bl false, V.bl false, V.bl true, V.bl false]) ++ [V.bl false, V.bl false])) = H5 at s5 h5
  refine ⟨(by show 10 ≤ sizeLine; decide), fun l6 n6 => ?_⟩
  have s6 := same_new n6 (.lst [V.str "text", .str "tree", .str "args", .str "hall", .str "turn", .str "row", .str "missing", .str "bare", .str "spent", .str "broken"])
  have h6 := upd_same (H := H5) (a := l6) (o := .lst [V.str "text", .str "tree", .str "args", .str "hall", .str "turn", .str "row", .str "missing", .str "bare", .str "spent", .str "broken"])
  generalize upd H5 l6 (.lst [V.str "text", .str "tree", .str "args", .str "hall", .str "turn", .str "row", .str "missing", .str "bare", .str "spent", .str "broken"]) = H6 at s6 h6
  have k5 := s6 _ _ h5
  refine ⟨_, rfl, .inl ⟨rfl, _, SqL.of k5⟩, l5, _, _, rfl, rfl, SqL.of k5, rfl, rfl, rfl, _, rfl, ?_⟩
  refine iteNS (by rfl) ?_
  refine ⟨_, rfl, _, rfl, .inl ⟨rfl, _, SqL.of k5⟩, l5, _, _, 6, _, rfl, rfl, SqL.of k5, rfl, rfl, rfl, rfl, ?_, ?_⟩
  · intro m z hm e
    have : m = 0 ∨ m = 1 ∨ m = 2 ∨ m = 3 ∨ m = 4 ∨ m = 5 := by omega
    rcases this with rfl | rfl | rfl | rfl | rfl | rfl <;> (cases e; rfl)
  refine ⟨l6, _, 6, _, rfl, rfl, SqL.of h6, atI_nat (j := 6) rfl, ?_⟩
  have s16 := s13.trans (s4.trans (s5.trans s6))
  refine ⟨_, rfl, .ref cStealError, .ref cStealError, false, fs, rfl, (fun _ r => r), (s16 _ _ hd), EK.kStealError, _, rfl, .ty "ValueError", .type "ValueError", false, fs, rfl, (fun _ r => r), (s16 _ _ hd), EK.kValueError, _, rfl, .ty "LookupError", .type "LookupError", true, fs, rfl, (fun _ r => r), (s16 _ _ hd), EK.kLookupError, (by show 3 ≤ sizeLine; decide), fun l7 n7 => ?_⟩
  have s7 := same_new n7 (.lst [V.bl false, V.bl false, V.bl true])
  have h7 := upd_same (H := H6) (a := l7) (o := .lst [V.bl false, V.bl false, V.bl true])
  generalize upd H6 l7 (.lst [V.bl false, V.bl false, V.bl true]) = H7 at s7 h7
  have s17 := s16.trans s7
  refine ⟨_, rfl, _, rfl, .ty "RuntimeError", .type "RuntimeError", false, fs, rfl, (fun _ r => r), (s17 _ _ hd), EK.kRuntimeError, _, rfl, .ty "ArithmeticError", .type "ArithmeticError", false, fs, rfl, (fun _ r => r), (s17 _ _ hd), EK.kArithmeticError, (by show 2 ≤ sizeLine; decide), fun l8 n8 => ?_⟩
  have s8 := same_new n8 (.lst [V.bl false, V.bl false])
  have h8 := upd_same (H := H7) (a := l8) (o := .lst [V.bl false, V.bl false])
  generalize upd H7 l8 (.lst [V.bl false, V.bl false]) = H8 at s8 h8
  refine ⟨l7, l8, _, _, rfl, rfl, s8 _ _ h7, h8, (by show 5 ≤ sizeLine; decide), fun l9 n9 => ?_⟩
  have s9 := same_new n9 (.lst ([V.bl false, V.bl false, V.bl true] ++ [V.bl false, V.bl false]))
  have h9 := upd_same (H := H8) (a := l9) (o := .lst ([V.bl false, V.bl false, V.bl true] ++ [V.bl false, V.bl false]))
  generalize upd H8 l9 (.lst ([V.bl false, V.bl false, V.bl true] ++ [V.bl false, V.bl false])) = H9 at s9 h9
  refine ⟨(by show 5 ≤ sizeLine; decide), fun lA nA => ?_⟩
  have sA := same_new nA (.lst [V.bl true, .bl true, .bl false, .bl false, .bl false])
  have hA := upd_same (H := H9) (a := lA) (o := .lst [V.bl true, .bl true, .bl false, .bl false, .bl false])
  generalize upd H9 lA (.lst [V.bl true, .bl true, .bl false, .bl false, .bl false]) = HA at sA hA
  refine ⟨_, rfl, (by show 4 ≤ sizeLine; decide), fun lB nB => ?_⟩
  have sB := same_new nB (.lst [V.str "missing", .str "bare", .str "spent", .str "broken"])
  have hB := upd_same (H := HA) (a := lB) (o := .lst [V.str "missing", .str "bare", .str "spent", .str "broken"])
  generalize upd HA lB (.lst [V.str "missing", .str "bare", .str "spent", .str "broken"]) = HB at sB hB
  refine ⟨lB, _, rfl, .inl (SqL.of hB), rfl, rfl, true, (by decide +kernel), ?_⟩
  refine ⟨_, rfl, (by show 2 ≤ sizeLine; decide), fun lC nC => ?_⟩
  have sC := same_new nC (.lst [V.str "missing", .str "bare"])
  have hC := upd_same (H := HB) (a := lC) (o := .lst [V.str "missing", .str "bare"])
  generalize upd HB lC (.lst [V.str "missing", .str "bare"]) = HC at sC hC
  refine ⟨lC, _, rfl, .inl (SqL.of hC), rfl, rfl, _, rfl, rfl, _, rfl, rfl, (by show 5 ≤ sizeLine; decide), fun lD nD => ?_⟩
  have e1 : inV (.str "missing") [V.str "missing", .str "bare"] = true := by decide +kernel
  have e2 : decide (V.str "missing" = V.str "spent") = false := by decide +kernel
  have e3 : decide (V.str "missing" = V.str "broken") = false := by decide +kernel
  rw [if_neg Bool.false_ne_true, e1, e2, e3]
  have sD := same_new nD (.lst [V.bl false, .bl false, .bl true, .bl false, .bl false])
  have hD := upd_same (H := HC) (a := lD) (o := .lst [V.bl false, .bl false, .bl true, .bl false, .bl false])
  generalize upd HC lD (.lst [V.bl false, .bl false, .bl true, .bl false, .bl false]) = HD at sD hD
  have s1D := s17.trans (s8.trans (s9.trans (sA.trans (sB.trans (sC.trans sD)))))
  refine ⟨_, rfl, .ty "KeyError", .type "KeyError", false, fs, rfl, (fun _ r => r), (s1D _ _ hd), EK.kKeyError, false, rfl, ?_⟩
  refine ⟨_, rfl, .ty "IndexError", .type "IndexError", false, fs, rfl, (fun _ r => r), (s1D _ _ hd), EK.kIndexError, false, rfl, ?_⟩
  refine ⟨_, rfl, .ty "ZeroDivisionError", .type "ZeroDivisionError", false, fs, rfl, (fun _ r => r), (s1D _ _ hd), EK.kZeroDivisionError, false, rfl, ?_⟩
  have k9 := (sA.trans (sB.trans (sC.trans sD))) _ _ h9
  have dA : Dp K HD (.ref l9) (.list [.bool false, .bool false, .bool true, .bool false, .bool false]) := .lst (SqL.of k9) (.cons (.bl _) (.cons (.bl _) (.cons (.bl _) (.cons (.bl _) (.cons (.bl _) .nil)))))
  have dD : Dp K HD (.ref lD) (.list [.bool false, .bool false, .bool true, .bool false, .bool false]) := .lst (SqL.of hD) (.cons (.bl _) (.cons (.bl _) (.cons (.bl _) (.cons (.bl _) (.cons (.bl _) .nil)))))
  refine ⟨_, rfl, _, rfl, _, _, dA, dD, by decide +kernel, by decide +kernel, true, (by decide +kernel), ?_⟩
  exact ⟨_, rfl, q HD s1D⟩
theorem ok_said {f g r C CM fM : Addr} {fd gd rd : FuncData} (F : Fun K "_law_said" "_law_said" sSaid f fd) (BT : BkT K mg C) (GT : FnOk P w K mg base (L2.CX P w) 2 g gd ["self", "name"] (spBookTree C CM)) (MT : Meth K C "tree" g) (bT : Binds K gd ["self", "name"] []) (GR : FnE P w K mg base 2 r rd ["_law_e"] (spRefusal CM)) (mR : mg "_law_refusal" = some (.ref r)) (kR : PySem.W.keepIn K (.ref r) = true) (bR : Binds K rd ["_law_e"] [])
    (gM : mg "Missing" = some (.ref CM)) (te : PySem.W.exmOne K (.ref CM) (.ref CM) = some true) (XF : XfC K CM) (noN : PySem.W.findIn K (.ref CM) "name" = some none) : FnOk P w K mg base CX0 4 f fd ["_law_book", "_law_name"] (spSaid C) := by
  refine F.ok scSaid (fun vs H Q E h => ?_) (fun cdv A outer s H vs Q E hr h => ?_)
  · obtain ⟨x, Ws, nm, rfl, _⟩ := h
    rfl
  obtain ⟨x, Ws, nm, rfl, bk, ln, found, lost⟩ := h
  refine ⟨_, (pss_one (ps_try_as (i := 2) rfl rfl scSaid.nd rfl rfl ⟨rfl, by decide, .inl gM⟩ takes0 (fun W pn xe tk _ => pss_one (ps_ret (pe_methX (pv 0) BT.cl MT GT (hr.mono (by omega)) bT (fun σ => passAt tk σ) (pa_cons (pv 1) pa_nil))))
    (fun a oe cls d pn hz hf => pss_one (ps_ret (pe_tup (pa_cons (pe_callE hz hf GR ⟨(hr.mono (by omega : 2 ≤ 3)).dp, (hr.mono (by omega : 2 ≤ 3)).un⟩ rfl mR kR bR (pa_cons (pv 2) pa_nil)) (pa_cons (pe_xf XF noN hz hf (pv 2)) pa_nil))))))), ?_⟩
  have bk' := bk
  obtain ⟨dx, p, us, hx, hp, hW⟩ := bk
  refine ⟨_, rfl, x, dx, _, rfl, hx, rfl, _, rfl, x, Ws, nm, rfl, bk', ln, found, fun no d hd => ?_⟩
  refine ⟨true, te, fun _ a0 _ => ?_, fun q => Bool.noConfusion q⟩
  refine ⟨_, rfl, d, _, rfl, rfl, rfl, upd_same, fun H1 s1 => ?_⟩
  refine ⟨_, rfl, rfl, rfl, d, _, _, rfl, s1 _ _ upd_same, rfl, (by show 2 ≤ sizeLine; decide), fun pt npt => ?_⟩
  have s2 := same_new npt (.tup [V.str "missing", .str nm])
  exact lost no pt _ ((same_new hd _).trans (s1.trans s2)) upd_same
end
end SH

set_option Elab.async false
set_option linter.all false
set_option maxRecDepth 100000
namespace SH
open PySem L2
abbrev sRight2 : Stmt := topS 76
abbrev sLaw : Stmt := topS 77
theorem scRight2 : FnScope ["_law_book", "_law_works_here", "_law_names_here", "_law_shown", "_law_again", "_law_told", "_law_many", "_law_work", "_law_text"] ["_law_book", "_law_works_here"] (defScope sRight2) := ⟨rfl, rfl, rfl, by decide +kernel, rfl, by decide +kernel, by decide +kernel⟩
theorem scLaw : FnScope ["_law_script", "_law_k", "_law_bag_here", "_law_works_here", "_law_handed", "_law_book", "_law_name", "_law_work"] ["_law_script"] (defScope sLaw) := ⟨rfl, rfl, rfl, by decide +kernel, rfl, by decide +kernel, by decide +kernel⟩
structure FkG (P : Program) (w : World) (K : PySem.W.Frag) (mg : Str → Option Value) (base : Heap) (lv : Nat) (x : Str) (f : Addr) (fd : FuncData) (ps : List Str) (sp : Sp) : Prop where
  G : FnG P w K mg base lv f fd ps sp
  m : mg x = some (.ref f)
  k : PySem.W.keepIn K (.ref f) = true
  b : Binds K fd ps []
/-- a told list beside its text -/
def ShAt (K : PySem.W.Frag) (ls : Addr) (H : Hp) (v : V) : Prop := ∃ (t D : Addr) (vs : List V) (ds : List PyData), v = .ref t ∧ H t = some (.tup [.ref D, .str (PyData.list ds).shown]) ∧ D ≠ ls ∧ H D = some (.lst vs) ∧ DpAll K H vs ds ∧ NiceL ds
theorem KpT.but {K : PySem.W.Frag} {b : Addr} {ys : List V} {H H' : Hp} (hb : H b = some (.lst ys)) (h : But b H H') : KpT K H H' := fun a xs q => by
  rcases q with (q | ⟨o, q⟩) | q
  · exact .inl (.inl (h _ _ (fun z => by rw [z, hb] at q; cases q) q))
  · exact .inl (.inr ⟨o, h _ _ (fun z => by rw [z, hb] at q; cases q) q⟩)
  · exact .inr q
theorem ShAt.but {K : PySem.W.Frag} {ls : Addr} {ys : List V} {H H' : Hp} {v : V} (hb : H ls = some (.lst ys)) (h : But ls H H') : ShAt K ls H v → ShAt K ls H' v
  | ⟨t, D, vs, ds, e, ht, n, hD, dp, ni⟩ => ⟨t, D, vs, ds, e, h _ _ (fun z => by rw [z, hb] at ht; cases ht) ht, n, h _ _ n hD, DpAll.keep (KpT.but hb h) ni.ot dp, ni⟩
theorem nice_nm {n : Nat} {s : Str} (h : NmOk s) : Nice n 82 (.str s) := by
  refine ⟨fit_name h, Nat.zero_le _, rfl, rfl, rfl, ?_⟩
  have l8 := h.1.2.1
  have := StrLaws.reprText_len s (fun c hc => by
    have := h.1.2.2 c hc
    omega)
  rw [codes_len] at l8
  show (reprText s).length ≤ 82
  omega
theorem join_len (a : Str) : ∀ l : List Str, (PySem.Txt.join a l).length ≤ (l.map (·.length)).sum + l.length * a.length := by
  have step : ∀ l : List Str, (PySem.Str.join a l).length ≤ (l.map (·.length)).sum + l.length * a.length := by
    intro l
    induction l with
    | nil => exact Nat.zero_le _
    | cons x r ih =>
      cases r with
      | nil =>
        show x.length ≤ x.length + 0 + 1 * a.length
        omega
      | cons y t =>
        show (x ++ a ++ PySem.Str.join a (y :: t)).length ≤ x.length + ((y :: t).map (·.length)).sum + ((y :: t).length + 1) * a.length
        rw [app_len, app_len, Nat.succ_mul]
        omega
  intro l
  show (Builtin.Str.glued a l).length ≤ _
  rw [StrLaws.glued_eq_join]
  exact step l
theorem op_eqDK {X : Cx} (K : PySem.W.Frag) (hu : X.A.units + 64 < cLine) (hK : X.K = K := by rfl) : OpR X (compareOp .Eq) (rEqD K) := hK ▸ op_eqD hu
def bookR (Ws : List Wk) : Str := "Book(" ++ PySem.Txt.join ", " (Ws.map Wk.name) ++ ")"
theorem nm_len {s : Str} (h : NmOk s) : s.length ≤ 8 := by
  have := h.1.2.1
  rwa [codes_len] at this
theorem sum8 : ∀ {l : List Str}, (∀ s ∈ l, s.length ≤ 8) → (l.map (·.length)).sum ≤ 8 * l.length
  | [], _ => Nat.le_refl _
  | s :: l, h => by
    have h1 := h s (List.mem_cons_self ..)
    have h2 := sum8 fun y hy => h y (List.mem_cons_of_mem _ hy)
    rw [List.map_cons, List.sum_cons, List.length_cons]
    omega
theorem names_fit {Ws : List Wk} (ok : WksOk Ws) : ((Ws.map Wk.name).map (·.length)).sum + (Ws.map Wk.name).length * (", " : Str).length ≤ 200 ∧ (PySem.Txt.join ", " (Ws.map Wk.name)).length ≤ 200 := by
  have h1 := sum8 (l := Ws.map Wk.name) fun s hs => by
    obtain ⟨W, hW, rfl⟩ := List.mem_map.mp hs
    exact nm_len (ok.each W hW).name
  have h2 := join_len ", " (Ws.map Wk.name)
  have h3 : (", " : Str).length = 2 := by decide +kernel
  have h4 := ok.few
  rw [List.length_map] at h1 h2 ⊢
  rw [h3] at h2 ⊢
  omega
def spBookRepr (C : Addr) : Sp := fun vs H Q _ => ∃ (x : Addr) (Ws : List Wk), vs = [.ref x] ∧ BkIn H C x Ws ∧ WksOk Ws ∧ ∀ H', Same H H' → Q (.str (bookR Ws)) H'
def spRight2 (C : Addr) : Sp := fun vs H Q _ => ∃ (x l : Addr) (Ws : List Wk) (us : List V), vs = [.ref x, .ref l] ∧ BkIn H C x Ws ∧ H l = some (.lst us) ∧ WksIn H Ws us ∧ WksOk Ws ∧ ∀ H', Same H H' → Q (.bl true) H'
section
variable {P : Program} {w : World} {K : PySem.W.Frag} {mg : Str → Option Value} {base : Heap}
theorem ok_bookRepr {f g C : Addr} {fd gd : FuncData} (F : Fun K "__repr__" "Book.__repr__" sBookRepr f fd) (BK : BkT K mg C) (MN : Meth K C "names" g) (GN : FnOk P w K mg base CX0 1 g gd ["self"] (spBookNames C)) (bN : Binds K gd ["self"] []) : FnOk P w K mg base CX0 2 f fd ["self"] (spBookRepr C) := by
  refine F.ok scBookRepr (fun vs H Q E h => ?_) (fun cdv A outer s H vs Q E hr h => ?_)
  · obtain ⟨x, Ws, rfl, _⟩ := h
    rfl
  obtain ⟨x, Ws, rfl, bk, ok, q⟩ := h
  refine ⟨_, (pss_one (ps_ret (pe_joined (.cons pe_str (.cons (pe_fmt (pe_join pe_str (pe_meth0 (pv 0) BK.cl MN GN hr bN .nil pass0))) (.cons pe_str .nil)))))), ?_⟩
  have hs : sizeLine = 16777216 := by decide
  have bk' := bk
  obtain ⟨dx, p, us, hx, hp, hW⟩ := bk
  obtain ⟨n1, n2⟩ := names_fit ok
  have h5 : ("Book(" : Str).length = 5 := by decide +kernel
  have h1 : (")" : Str).length = 1 := by decide +kernel
  have add : ∀ a b : Str, (a ++ b).length = a.length + b.length := fun a b => by rw [strLen_append]
  have e0 : ∀ a : Str, Str.empty ++ a = a := fun a => by
    apply codes_inj
    rw [codes_app]
    rfl
  refine ⟨_, rfl, by rw [e0]; omega, ?_⟩
  rw [e0]
  refine ⟨⟨_, rfl⟩, _, rfl, x, dx, _, rfl, hx, rfl, x, Ws, rfl, bk', by have := ok.few; omega, fun D H1 s1 hD hD1 => ?_⟩
  refine ⟨_, D, Ws.map Wk.name, rfl, rfl, .inl (SqL.of hD1), by omega, .inl ⟨_, rfl, by omega, _, rfl, by rw [add]; omega, _, rfl, by rw [add, add]; omega, ?_⟩⟩
  exact q H1 s1
theorem ok_right2 {f j n ln rp C : Addr} {fd jd nd lnd rpd : FuncData} (F : Fun K "_law_is_right" "_law_is_right" sRight2 f fd) (BK : BkT K mg C) (SD : Fk P w K mg base 4 "_law_said" j jd ["_law_book", "_law_name"] (spSaid C)) (MN : Meth K C "names" n) (GN : FnOk P w K mg base CX0 1 n nd ["self"] (spBookNames C)) (bN : Binds K nd ["self"] [])
    (hB0 : PySem.W.findIn K (.ref C) "__bool__" = some none) (hLn : PySem.W.findIn K (.ref C) "__len__" = some (some (.ref ln))) (fLn : PySem.W.isFn K (.ref ln) = true) (GL : FnOk P w K mg base CX0 1 ln lnd ["self"] (spBookLen C)) (bL : Binds K lnd ["self"] [])
    (hRp : PySem.W.findIn K (.ref C) "__repr__" = some (some (.ref rp))) (fRp : PySem.W.isFn K (.ref rp) = true) (GR : FnOk P w K mg base CX0 2 rp rpd ["self"] (spBookRepr C)) (bR : Binds K rpd ["self"] [])
    (T : Bi mg) (mt : mg "list" = none) (mtb : mg "bool" = none) (q_repr : mg "repr" = none) : FnG P w K mg base 6 f fd ["_law_book", "_law_works_here"] (spRight2 C) := by
  refine okG F scRight2 (fun vs H Q E h => ?_) (fun cdv A outer s H vs Q E gd hr h => ?_)
  · obtain ⟨x, l, Ws, us, rfl, _⟩ := h
    rfl
  obtain ⟨x, l, Ws, us, rfl, bk, hl, hW, ok, q⟩ := h
  refine ⟨_, (pss_cons (ps_setLc (i := 2) (own := [("_law_work", 7)]) (g := gName 7) (tt := tYes) (by rfl) scRight2.nd rfl rfl (sw_true rfl rfl rfl (by decide +kernel)) (pi_list (pv 1)) (blkOk_by (own := [("_law_work", 7)]) (N := ["_law_book", "_law_works_here", "_law_names_here", "_law_shown", "_law_again", "_law_told", "_law_many", "_law_work", "_law_text"]) (sc := defScope sRight2) (by decide +kernel)) (fun _ _ _ _ _ => pg_name (i := 7) scRight2.nd rfl (Or.inl rfl)) (fun _ _ _ _ _ => pts_nil) (fun _ _ _ _ _ => (pe_ix (ix_tupK K) (pv 7) pe_int (fun _ _ => rfl))))
    (pss_cons (ps_set (i := 3) scRight2.nd rfl (Or.inl rfl) (pe_lst pa_nil))
    (pss_cons (ps_for PassesOwn.never rfl (pi_range1 (by rfl) T.range (pa_cons pe_int pa_nil)) (pg_name (i := 4) scRight2.nd rfl (.inl rfl))
      (pss_cons (ps_set (i := 5) scRight2.nd rfl (Or.inl rfl) (pe_meth0 (pv 0) BK.cl MN GN (hr.mono (by omega)) bN .nil pass0))
    (pss_cons (ps_if (PW.pt (pw_or (pt_not (pt_val (pe_callB call_isi (by rfl) T.isinstance (by decide +kernel) (pa_cons (pv 5) (pa_cons (pe_bltn (v := .ty "list") (by rfl) mt (by decide +kernel) rfl) pa_nil))))) (pw_or1 (pt_cmpR (op_neD hr.units) (pv 5) (pv 2) (nomark _)))))
      (pss_one (ps_ret pe_bl))
      pss_nil)
    (pss_cons (ps_expr (pe_bm PySem.F.plainAttrs_list PySem.F.slot_list_append PySem.F.type_list_append mt_append (pv 5) (pa_cons (pe_callTy call_str_int (by rfl) T.str (by decide +kernel) (pa_cons (pv 4) pa_nil)) pa_nil)))
    (pss_cons (ps_expr (pe_bm0 PySem.F.plainAttrs_list PySem.F.slot_list_reverse PySem.F.type_list_reverse mt_reverse (pv 5)))
    (pss_one (ps_expr (pe_bm PySem.F.plainAttrs_list PySem.F.slot_list_append PySem.F.type_list_append mt_append (pv 3) (pa_cons (pe_tup (pa_cons (pv 5) (pa_cons (pe_callB (call_reprD gd hr.units) (by rfl) q_repr (by decide +kernel) (pa_cons (pv 5) pa_nil)) pa_nil))) pa_nil)))))))))
    (pss_cons (ps_if (pt_not (pt_val (pe_callB (cr_all rfl) (by rfl) T.all (by decide +kernel) (pa_cons (pe_lc (own := [("_law_told", 5), ("_law_text", 8)]) (g := gTup K 2 (gCons (gName 5) (gCons (gName 8) gNil))) (tt := tYes) (by rfl) scRight2.nd (pi_list (pv 3)) (blkOk_by (own := [("_law_told", 5), ("_law_text", 8)]) (N := ["_law_book", "_law_works_here", "_law_names_here", "_law_shown", "_law_again", "_law_told", "_law_many", "_law_work", "_law_text"]) (sc := defScope sRight2) (by decide +kernel)) (fun _ _ _ _ _ => pg_tup rfl (pgs_cons (pg_name (i := 5) scRight2.nd rfl (Or.inl rfl)) (pgs_cons (pg_name (i := 8) scRight2.nd rfl (Or.inl rfl)) pgs_nil))) (fun _ _ _ _ _ => pts_nil) (fun _ _ _ _ _ => (pe_cmpR op_eq (pe_callB (call_reprK K gd hr.units) (by rfl) q_repr (by decide +kernel) (pa_cons (pv 5) pa_nil)) (pv 8) (nomark _)))) pa_nil))))
      (pss_one (ps_ret pe_bl))
      pss_nil)
    (pss_cons (ps_set (i := 6) scRight2.nd rfl (Or.inl rfl) (pe_callB (call_lenOwn hLn fLn GL bL (hr.mono (by omega))) (by rfl) T.len (by decide +kernel) (pa_cons (pv 0) pa_nil)))
    (pss_cons (ps_if (PW.pt (pw_or (pt_cmpR op_ne (pv 6) (pe_callB call_len_seq (by rfl) T.len (by decide +kernel) (pa_cons (pv 1) pa_nil)) (nomark _)) (pw_or (pt_cmpR op_ne (pe_callTy (call_boolLen hB0 hLn fLn GL bL (hr.mono (by omega))) (by rfl) mtb (by decide +kernel) (pa_cons (pv 0) pa_nil)) (pe_cmpR (op_neD hr.units) (pv 1) (pe_lst pa_nil) (nomark _)) (nomark _)) (pw_or1 (pt_cmpR op_ne (pe_callB (call_reprOwn hRp fRp GR bR (hr.mono (by omega))) (by rfl) q_repr (by decide +kernel) (pa_cons (pv 0) pa_nil)) (pe_op op_add_str (pe_op op_add_str pe_str (pe_join pe_str (pv 2))) pe_str) (nomark _))))))
      (pss_one (ps_ret pe_bl))
      pss_nil)
    (pss_one (ps_ret (pe_callB (cr_all rfl) (by rfl) T.all (by decide +kernel) (pa_cons (pe_lc (own := [("_law_work", 7)]) (g := gName 7) (tt := tYes) (by rfl) scRight2.nd (pi_list (pv 1)) (blkOk_by (own := [("_law_work", 7)]) (N := ["_law_book", "_law_works_here", "_law_names_here", "_law_shown", "_law_again", "_law_told", "_law_many", "_law_work", "_law_text"]) (sc := defScope sRight2) (by decide +kernel)) (fun _ _ _ _ _ => pg_name (i := 7) scRight2.nd rfl (Or.inl rfl)) (fun _ _ _ _ _ => pts_nil) (fun _ _ _ _ _ => (pe_cmpR (op_eqDK K hr.units) (pe_call SD.G (hr.mono (by omega)) (by rfl) SD.m SD.k SD.b .nil pass0 (pa_cons (pv 0) (pa_cons (pe_ix (ix_tupK K) (pv 7) pe_int (fun _ _ => rfl)) pa_nil))) (pv 7) (nomark _)))) pa_nil)))))))))), ?_⟩
  have hs : sizeLine = 16777216 := by decide
  have few := ok.few
  obtain ⟨n1, n2⟩ := names_fit ok
  have nok : ∀ s ∈ Ws.map Wk.name, NmOk s := fun s hs => by
    obtain ⟨W, hW, rfl⟩ := List.mem_map.mp hs
    exact (ok.each W hW).name
  -- the names
  refine ⟨_, rfl, l, rfl, ⟨_, SqL.of hl⟩, ?_⟩
  intro D hD
  refine lc_list (K := K) (a := l) (xs := us) (fun j H' => H' D = some (.lst (((Ws.take j).map Wk.name).map V.str)) ∧ Same H H') ⟨upd_same, same_new hD _⟩ (fun j H' _ h => SqL.of (h.2 _ _ hl)) ?_ ?_
  · rintro j v H1 hv ⟨hD1, s1⟩
    obtain ⟨W, hWi, hin⟩ := hW.2 j v hv
    have hj : j < Ws.length := (List.getElem?_eq_some_iff.mp hWi).1
    obtain ⟨a, pn, pr, xs, rfl, ha, _⟩ := hin.same s1
    refine ⟨rfl, ?_⟩
    refine ⟨_, rfl, a, _, 1, _, rfl, rfl, SqT.of ha, rfl, ?_⟩
    refine ⟨_, hD1, by rw [List.length_map, List.length_map, List.length_take]; omega, ?_, ?_⟩
    · rw [upd_same, List.take_add_one, hWi, List.map_append, List.map_append]
      rfl
    · intro y o z
      rw [upd_ne (ne_of_none z hD)]
      exact s1 _ _ z
  rintro H1 ⟨hD1, s1⟩
  rw [hW.1, List.take_length] at hD1
  have dnm : ∀ {H' : Hp} {a : Addr}, H' a = some (.lst ((Ws.map Wk.name).map V.str)) → Dp K H' (.ref a) (.list ((Ws.map Wk.name).map PyData.str)) := fun h => .lst (SqL.of h) (strs_dp _)
  have nice : ∀ (more ds : List PyData), (∀ d ∈ more, Nice 8 82 d) → more.length ≤ 1 → (∀ d ∈ ds, d ∈ (Ws.map Wk.name).map PyData.str ++ more) → ds.length ≤ 13 → NiceL ds := by
    intro more ds hm hl' hd ld
    have qq : Nices 8 (ds.length * (82 + 2)) ds := Nices.all fun d m => by
      rcases List.mem_append.mp (hd d m) with z | z
      · obtain ⟨s, hs, rfl⟩ := List.mem_map.mp z
        exact nice_nm (nok s hs)
      · exact hm d z
    exact niceL qq (by decide) (by omega)
  have ni0 : NiceL ((Ws.map Wk.name).map PyData.str) := nice [] _ (fun d hd => by cases hd) (by decide) (fun d hd => List.mem_append_left _ hd) (by rw [List.length_map, List.length_map]; omega)
  -- told twice
  refine ⟨Nat.zero_le _, fun ls nls => ?_⟩
  have s2 := same_new nls (.lst [])
  have nDs : D ≠ ls := ne_of_none hD1 nls
  have nls0 : H ls = none := s1.free nls
  refine ⟨2, rfl, by decide, by decide, ?_⟩
  refine for_range (lo := 0) (n := 2) (fun t σ H' => ∃ (y4 y5 : Option V) (sv : List V), σ = [some (.ref x), some (.ref l), some (.ref D), some (.ref ls), y4, y5, none, none, none] ∧ H' ls = some (.lst sv) ∧ sv.length = t ∧ (∀ v ∈ sv, ShAt K ls H' v) ∧ Same H1 H') ?_ ?_ ?_
  · exact ⟨none, none, [], rfl, upd_same, rfl, fun v hv => (by cases hv), s2⟩
  · rintro t σ H6 ht ⟨y4, y5, sv, rfl, hls, lsv, hsv, s16⟩
    have s06 := s1.trans s16
    obtain ⟨dx, p, us', hx, hp, hW'⟩ := bk.same s06
    refine ⟨_, rfl, x, dx, _, rfl, hx, rfl, x, Ws, rfl, ⟨dx, p, us', hx, hp, hW'⟩, by omega, fun l7 H7 s7 nl7 h7 => ?_⟩
    refine ⟨_, rfl, _, _, _, _, true, rfl, .ty "list", .base (.lst h7), kit_ty (by decide +kernel), _, rfl, ?_⟩
    refine ⟨_, rfl, _, rfl, _, _, dnm h7, dnm (s7 _ _ (s16 _ _ hD1)), ni0.shaped, ni0.shaped, ?_⟩
    rw [ni0.refl]
    refine ⟨false, rfl, ?_⟩
    have nls7 : l7 ≠ ls := fun z => by rw [z, hls] at nl7; cases nl7
    obtain ⟨z9, ez⟩ : ∃ z9 : Str, z9 = PySem.Str.ofString (toString (0 + (t : Int))) := ⟨_, rfl⟩
    have nz : Nice 8 82 (.str z9) := by
      have : t = 0 ∨ t = 1 := by omega
      rw [ez]
      rcases this with rfl | rfl
      · exact nice_lit (by decide +kernel) (by decide +kernel)
      · exact nice_lit (by decide +kernel) (by decide +kernel)
    have l2 : (0 + (t : Int)).natAbs.log2 < 1920 := by
      have : t = 0 ∨ t = 1 := by omega
      rcases this with rfl | rfl <;> decide
    refine ⟨_, rfl, .inl ⟨rfl, _, SqL.of h7⟩, _, rfl, _, rfl, l2, l7, _, _, rfl, rfl, h7, by rw [List.length_map, List.length_map]; omega, ?_⟩
    have h8 := upd_same (H := H7) (a := l7) (o := .lst ((Ws.map Wk.name).map V.str ++ [V.str (PySem.Str.ofString (toString (0 + (t : Int))))]))
    have s68 : Same H6 (upd H7 l7 (.lst ((Ws.map Wk.name).map V.str ++ [V.str (PySem.Str.ofString (toString (0 + (t : Int))))]))) := fun b o z => by
      rw [upd_ne (ne_of_none z nl7)]
      exact s7 _ _ z
    generalize upd H7 l7 (.lst ((Ws.map Wk.name).map V.str ++ [V.str (PySem.Str.ofString (toString (0 + (t : Int))))])) = H8 at h8 s68
    rw [← ez] at h8
    refine ⟨_, rfl, .inl ⟨rfl, _, SqL.of h8⟩, l7, _, rfl, rfl, h8, ?_⟩
    obtain ⟨ds9, e9⟩ : ∃ ds9, ds9 = ((Ws.map Wk.name).map PyData.str ++ [PyData.str z9]).reverse := ⟨_, rfl⟩
    have ni9 : NiceL ds9 := nice [.str z9] ds9 (fun d hd => by rw [List.mem_singleton.mp hd]; exact nz) (by show 1 ≤ 1; decide) (fun d hd => by rw [e9] at hd; exact List.mem_reverse.mp hd) (by rw [e9, List.length_reverse, List.length_append, List.length_map, List.length_map, List.length_singleton]; omega)
    have h9 := upd_same (H := H8) (a := l7) (o := .lst ((Ws.map Wk.name).map V.str ++ [V.str z9]).reverse)
    have s69 : Same H6 (upd H8 l7 (.lst ((Ws.map Wk.name).map V.str ++ [V.str z9]).reverse)) := fun b o z => by
      rw [upd_ne (ne_of_none z nl7)]
      exact s68 _ _ z
    have d9 : ∀ H' : Hp, DpAll K H' ((Ws.map Wk.name).map V.str ++ [V.str z9]).reverse ds9 := fun H' => by
      rw [e9]
      exact DpAll.rev (DpAll.app (strs_dp _) (.cons (.str _) .nil))
    generalize upd H8 l7 (.lst ((Ws.map Wk.name).map V.str ++ [V.str z9]).reverse) = H9 at h9 s69
    generalize ((Ws.map Wk.name).map V.str ++ [V.str z9]).reverse = v9 at h9 d9
    have hls9 := s69 _ _ hls
    refine ⟨_, rfl, .inl ⟨rfl, _, SqL.of hls9⟩, ?_⟩
    refine ⟨_, rfl, _, rfl, l7, _, rfl, .lst (SqL.of h9) (d9 H9), ni9.sh, ni9.nd, Nat.le_trans ni9.dep (by decide), ni9.sz, (by show 2 ≤ sizeLine; decide), fun pt npt => ?_⟩
    have sA := same_new npt (.tup [V.ref l7, .str (PyData.list ds9).shown])
    have hA := upd_same (H := H9) (a := pt) (o := .tup [V.ref l7, .str (PyData.list ds9).shown])
    generalize upd H9 pt (.tup [V.ref l7, .str (PyData.list ds9).shown]) = HA at sA hA
    have hlsA := sA _ _ hls9
    refine ⟨ls, sv, _, rfl, rfl, hlsA, by omega, ?_⟩
    have b1 : But ls HA (upd HA ls (.lst (sv ++ [V.ref pt]))) := fun x o n z => by rw [upd_ne n]; exact z
    refine ⟨_, _, sv ++ [V.ref pt], rfl, upd_same, by rw [List.length_append, lsv]; rfl, fun v hv => ?_, ?_⟩
    · rcases List.mem_append.mp hv with hv | hv
      · exact ShAt.but hlsA b1 (ShAt.but hls (But.of (s69.trans sA)) (hsv v hv))
      · rw [List.mem_singleton.mp hv]
        exact ShAt.but hlsA b1 ⟨pt, l7, v9, ds9, rfl, hA, nls7, sA _ _ h9, d9 HA, ni9⟩
    · intro b o z
      rw [upd_ne (fun e => by rw [e] at z; rw [nls] at z; cases z)]
      exact (s69.trans sA) _ _ (s16 _ _ z)
  · rintro σ H6 ⟨y4, y5, sv, rfl, hls, lsv, hsv, s16⟩
    refine ⟨_, rfl, ls, rfl, ⟨_, SqL.of hls⟩, ?_⟩
    intro D2 hD2
    refine lc_list (K := K) (a := ls) (xs := sv) (fun j H' => H' D2 = some (.lst ((List.replicate j true).map V.bl)) ∧ Same H6 H') ⟨upd_same, same_new hD2 _⟩ (fun j H' _ h => SqL.of (h.2 _ _ hls)) ?_ ?_
    · rintro j v H7 hv ⟨hD7, s7⟩
      obtain ⟨t, D', vs, ds, rfl, ht, n', hD', dp, ni⟩ := hsv v (List.mem_of_getElem? hv)
      have hj : j < sv.length := (List.getElem?_eq_some_iff.mp hv).1
      refine ⟨_, _, rfl, SqT.of (s7 _ _ ht), rfl, _, _, rfl, _, _, rfl, rfl, rfl, ?_⟩
      refine ⟨_, rfl, D', _, rfl, .lst (SqL.of (s7 _ _ hD')) (DpAll.keep (Same.kpT s7) ni.ot dp), ni.sh, ni.nd, Nat.le_trans ni.dep (by decide), ni.sz, _, rfl, rfl, ?_⟩
      refine ⟨_, hD7, by rw [List.length_map, List.length_replicate]; omega, ?_, ?_⟩
      · rw [upd_same, decide_eq_true rfl, List.replicate_succ', List.map_append]
        rfl
      · intro b o z
        rw [upd_ne (ne_of_none z hD2)]
        exact s7 _ _ z
    rintro H7 ⟨hD7, s7⟩
    refine ⟨D2, _, rfl, SqL.of hD7, _, rfl, ?_⟩
    rw [all_true]
    have s07 := s1.trans (s16.trans s7)
    have b7 := bk.same s07
    have b7' := b7
    obtain ⟨dx, p, us', hx, hp, hW'⟩ := b7
    -- len
    refine ⟨_, rfl, x, dx, _, rfl, hx, x, Ws, rfl, b7', Ws.length, rfl, by omega, ?_⟩
    refine ⟨_, rfl, _, rfl, l, us, rfl, .inl (SqL.of (s07 _ _ hl)), rfl, false, ?_, ?_⟩
    · show V.bl (!decide (V.int ((Ws.length : Nat) : Int) = V.int ((us.length : Nat) : Int))) = V.bl false
      rw [hW.1, decide_eq_true rfl]
      rfl
    refine ⟨_, rfl, x, dx, _, rfl, hx, x, Ws, rfl, b7', Ws.length, rfl, by omega, ?_⟩
    refine ⟨_, rfl, Nat.zero_le _, fun pe npe => ?_⟩
    have s8 := same_new npe (.lst [])
    have h8 := upd_same (H := H7) (a := pe) (o := .lst [])
    generalize upd H7 pe (.lst []) = H8 at s8 h8
    have s08 := s07.trans s8
    refine ⟨.list (Ws.map Wk.dat), .list [], .lst (SqL.of (s08 _ _ hl)) (wks_dp (hW.same s08)), .lst (SqL.of h8) .nil, (wks_shaped ok.each).2, rfl, rfl, false, ?_, ?_⟩
    · cases Ws with
      | nil => rfl
      | cons W0 W1 =>
        have e1 : PyData.eqv (.list ((W0 :: W1).map Wk.dat)) (.list []) = false := by rw [PyData.eqv]; rfl
        show V.bl (!decide (V.bl (((W0 :: W1).length : Nat) != (0 : Int)) = V.bl (!PyData.eqv (.list ((W0 :: W1).map Wk.dat)) (.list [])))) = V.bl false
        have e2 : ((((W0 :: W1).length : Nat) : Int) != 0) = true := by
          rw [List.length_cons]
          exact bne_iff_ne.mpr (by omega)
        rw [e1, e2]
        decide
    have b8 := b7'.same s8
    have b8' := b8
    obtain ⟨dx8, p8, us8, hx8, hp8, hW8⟩ := b8
    have h5 : ("Book(" : Str).length = 5 := by decide +kernel
    have h1' : (")" : Str).length = 1 := by decide +kernel
    have add : ∀ a b : Str, (a ++ b).length = a.length + b.length := fun a b => by rw [strLen_append]
    refine ⟨_, rfl, x, dx8, _, rfl, hx8, x, Ws, rfl, b8', ok, fun H9 s9 => ⟨_, rfl, ?_⟩⟩
    have s09 := s08.trans s9
    have hD9 := (s16.trans (s7.trans (s8.trans s9))) _ _ hD1
    refine ⟨⟨_, rfl⟩, _, rfl, _, D, Ws.map Wk.name, rfl, rfl, .inl (SqL.of hD9), by omega, _, _, rfl, rfl, by omega, _, _, rfl, rfl, by rw [add]; omega, rfl, false, ?_, ?_⟩
    · show V.bl (!decide (V.str (bookR Ws) = V.str (bookR Ws))) = V.bl false
      rw [decide_eq_true rfl]
      rfl
    -- each name's work
    refine ⟨_, rfl, l, rfl, ⟨_, SqL.of (s09 _ _ hl)⟩, ?_⟩
    intro D3 hD3
    refine lc_list (K := K) (a := l) (xs := us) (fun j H' => H' D3 = some (.lst ((List.replicate j true).map V.bl)) ∧ Same H9 H') ⟨upd_same, same_new hD3 _⟩ (fun j H' _ h => SqL.of ((s09.trans h.2) _ _ hl)) ?_ ?_
    · rintro j v Hj hv ⟨hDj, sj⟩
      have s0j := s09.trans sj
      obtain ⟨W, hWi, hin⟩ := hW.2 j v hv
      have hWm := List.mem_of_getElem? hWi
      have hj : j < Ws.length := (List.getElem?_eq_some_iff.mp hWi).1
      have hinj := hin.same s0j
      have hinj' := hinj
      obtain ⟨a, pn, pr, xs, rfl, ha, hpn, hpr, hR⟩ := hinj
      have wok := ok.each W hWm
      have n8 := nm_len wok.name
      refine ⟨rfl, ?_⟩
      refine ⟨_, rfl, _, rfl, a, _, 1, _, rfl, rfl, SqT.of ha, rfl, x, Ws, W.name, rfl, bk.same s0j, by omega, fun v' W' hm' hn' hin' => ?_, fun no => absurd rfl (no W hWm)⟩
      have eW : W' = W := by
        obtain ⟨i1, q1, z1⟩ := List.mem_iff_getElem.mp hm'
        obtain ⟨i2, q2, z2⟩ := List.mem_iff_getElem.mp hWm
        have y1 : (Ws.map Wk.name)[i1]? = some W.name := by rw [List.getElem?_map, List.getElem?_eq_getElem q1, z1, ← hn']; rfl
        have y2 : (Ws.map Wk.name)[i2]? = some W.name := by rw [List.getElem?_map, List.getElem?_eq_getElem q2, z2]; rfl
        have := nd_ix ok.nd y1 y2
        subst this
        exact z1.symm.trans z2
      subst eW
      have sh := shaped_of (Wk.fit wok) (by decide)
      refine ⟨_, rfl, _, _, Wk.dp hin', Wk.dp hinj', sh, sh, ?_⟩
      rw [SeqAt.eqv_refl _ (Wk.fit wok).1]
      refine ⟨_, hDj, by rw [List.length_map, List.length_replicate]; omega, ?_, ?_⟩
      · rw [upd_same, List.replicate_succ', List.map_append]
        rfl
      · intro b o z
        rw [upd_ne (ne_of_none z hD3)]
        exact sj _ _ z
    · rintro Hj ⟨hDj, sj⟩
      refine ⟨D3, _, rfl, SqL.of hDj, ?_⟩
      rw [all_true]
      exact q Hj (s09.trans sj)
end
end SH

set_option Elab.async false
set_option linter.all false
set_option maxRecDepth 100000
namespace SH
open PySem L2
theorem fresh_but {b : Addr} {H0 H1 H2 : Hp} (s : Same H0 H1) (hb : H0 b = none) (u : But b H1 H2) : Same H0 H2 := fun a o e => u a o (ne_of_none e hb) (s a o e)
def spLaw (K : PySem.W.Frag) : Sp := fun vs H Q _ => ∃ (a : Addr) (ns : List Int), vs = [.ref a] ∧ SqL K H a (ns.map V.int) ∧ ns.length ≤ 63 ∧ ∀ H', Q (.bl true) H'
/-- a pair that is told of a name that isn't there -/
theorem pair_dp {K : PySem.W.Frag} {H : Hp} {p : Addr} {z : Str} (h : H p = some (.tup [.str "missing", .str z])) : Dp K H (.ref p) (.tuple [.str "missing", .str z]) := .tup (SqT.of h) (dp2 (.str _) (.str _))
theorem pair_ok {z : Str} (h : PyData.strOk z = true) : SeqAt.shaped (.tuple [.str "missing", .str z]) = true ∧ PyData.eqv (.tuple [.str "missing", .str z]) (.tuple [.str "missing", .str z]) = true := by
  have f : Fit 1 (.tuple [.str "missing", .str z]) := fit_tup (n := 0) (all2 (fit_word (by decide +kernel)) (fit_word h))
  exact ⟨shaped_of f (by decide), SeqAt.eqv_refl _ f.1⟩
theorem w0 (H : Hp) : WksIn H [] [] := ⟨rfl, fun i v e => by simp at e⟩
theorem o0 : WksOk [] := ⟨by decide, fun W hW => (by cases hW), List.nodup_nil, fun W hW => (by cases hW)⟩
section
variable {P : Program} {w : World} {K : PySem.W.Frag} {mg : Str → Option Value} {base : Heap}
set_option maxHeartbeats 8000000 in
theorem ok_law {f fB fW fT fN fS fR fI C : Addr} {fd dB dW dT dN dS dR dI : FuncData} (F : Fun K "law" "law" sLaw f fd) (BG : Fk P w K mg base 1 "_law_bag" fB dB ["_law_script", "_law_k"] (spBag K)) (WS : Fk P w K mg base 17 "_law_works" fW dW ["_law_bag_here", "_law_most"] spWorks) (TK : Fk P w K mg base 1 "_law_take" fT dT ["_law_bag_here", "_law_many"] spTake) (NM : Fk P w K mg base 2 "_law_names" fN dN ["_law_bag_here", "_law_many"] spNames)
    (SD : Fk P w K mg base 4 "_law_said" fS dS ["_law_book", "_law_name"] (spSaid C)) (IR : FkG P w K mg base 6 "_law_is_right" fR dR ["_law_book", "_law_works_here"] (spRight2 C)) (BK : BkT K mg C) (MK : Mk K C fI) (GI : FnOk P w K mg base CX0 26 fI dI ["self", "works"] (spBookInit C)) (bI : Binds K dI ["self", "works"] []) (T : Bi mg) (mtl : mg "list" = none) : FnG P w K mg base 30 f fd ["_law_script"] (spLaw K) := by
  refine okG F scLaw (fun vs H Q E h => ?_) (fun cdv A outer s H vs Q E gd hr h => ?_)
  · obtain ⟨a, ns, rfl, _⟩ := h
    rfl
  obtain ⟨a, ns, rfl, hSc, h63, q⟩ := h
  refine ⟨_, (pss_cons (ps_for PassesOwn.never rfl (pi_range1 (by rfl) T.range (pa_cons (pe_callB (call_max2 rfl) (by rfl) T.max (by decide +kernel) (pa_cons pe_int (pa_cons (pe_callB (call_min2 rfl) (by rfl) T.min (by decide +kernel) (pa_cons pe_int (pa_cons (pe_callB call_len_seq (by rfl) T.len (by decide +kernel) (pa_cons (pv 0) pa_nil)) pa_nil))) pa_nil))) pa_nil)) (pg_name (i := 1) scLaw.nd rfl (.inl rfl))
      (pss_cons (ps_set (i := 2) scLaw.nd rfl (Or.inl rfl) (pe_call BG.G (hr.mono (by omega)) (by rfl) BG.m BG.k BG.b .nil pass0 (pa_cons (pv 0) (pa_cons (pv 1) pa_nil))))
    (pss_cons (ps_set (i := 3) scLaw.nd rfl (Or.inl rfl) (pe_call WS.G (hr.mono (by omega)) (by rfl) WS.m WS.k WS.b .nil pass0 (pa_cons (pv 2) (pa_cons (pe_ix ix_list (pe_lst (pa_cons pe_int (pa_cons pe_int pa_nil))) (pe_callTy call_int1 (by rfl) T.int (by decide +kernel) (pa_cons (pe_cmpR op_eq (pe_call TK.G (hr.mono (by omega)) (by rfl) TK.m TK.k TK.b .nil pass0 (pa_cons (pv 2) (pa_cons pe_int pa_nil))) pe_int (nomark _)) pa_nil)) (fun _ _ => rfl)) pa_nil))))
    (pss_cons (ps_set (i := 4) scLaw.nd rfl (Or.inl rfl) (pe_callTy call_list_of (by rfl) mtl (by decide +kernel) (pa_cons (pv 3) pa_nil)))
    (pss_cons (ps_set (i := 5) scLaw.nd rfl (Or.inl rfl) (pe_make MK GI (hr.mono (by omega)) (by rfl) BK.mgC bI .nil pass0 (pa_cons (pv 4) pa_nil)))
    (pss_cons (ps_if (pt_cmpR (op_neD hr.units) (pv 4) (pv 3) (nomark _))
      (pss_one (ps_ret pe_bl))
      pss_nil)
    (pss_cons (ps_expr (pe_bm0 PySem.F.plainAttrs_list PySem.F.slot_list_clear PySem.F.type_list_clear mt_clear (pv 4)))
    (pss_cons (ps_expr (pe_bm PySem.F.plainAttrs_list PySem.F.slot_list_append PySem.F.type_list_append mt_append (pv 4) (pa_cons pe_non pa_nil)))
    (pss_cons (ps_if (pt_not (pt_val (pe_callG IR.G gd (hr.mono (by omega)) (by rfl) IR.m IR.k IR.b (pa_cons (pv 5) (pa_cons (pv 3) pa_nil)))))
      (pss_one (ps_ret pe_bl))
      pss_nil)
    (pss_one (ps_for PassesOwn.never rfl (pi_list (pe_op op_cat (pe_call NM.G (hr.mono (by omega)) (by rfl) NM.m NM.k NM.b .nil pass0 (pa_cons (pv 2) (pa_cons pe_int pa_nil))) (pe_lst (pa_cons pe_str (pa_cons pe_str (pa_cons pe_str pa_nil)))))) (pg_name (i := 6) scLaw.nd rfl (.inl rfl))
      (pss_one (ps_if (PW.pt (pw_and (pt_cmpR op_notIn_seq (pv 6) (pe_lc (own := [("_law_work", 7)]) (g := gName 7) (tt := tYes) (by rfl) scLaw.nd (pi_list (pv 3)) (blkOk_by (own := [("_law_work", 7)]) (N := ["_law_script", "_law_k", "_law_bag_here", "_law_works_here", "_law_handed", "_law_book", "_law_name", "_law_work"]) (sc := defScope sLaw) (by decide +kernel)) (fun _ _ _ _ _ => pg_name (i := 7) scLaw.nd rfl (Or.inl rfl)) (fun _ _ _ _ _ => pts_nil) (fun _ _ _ _ _ => (pe_ix (ix_tupK K) (pv 7) pe_int (fun _ _ => rfl)))) rfl) (pw_and1 (pt_cmpR (op_neD hr.units) (pe_call SD.G (hr.mono (by omega)) (by rfl) SD.m SD.k SD.b .nil pass0 (pa_cons (pv 5) (pa_cons (pv 6) pa_nil))) (pe_tup (pa_cons pe_str (pa_cons (pv 6) pa_nil))) (nomark _)))))
      (pss_one (ps_ret pe_bl))
      pss_nil)))))))))))))
    (pss_one (ps_ret (pe_and (pe_callG IR.G gd (hr.mono (by omega)) (by rfl) IR.m IR.k IR.b (pa_cons (pe_make MK GI (hr.mono (by omega)) (by rfl) BK.mgC bI .nil pass0 (pa_cons (pe_lst pa_nil) pa_nil)) (pa_cons (pe_lst pa_nil) pa_nil))) (pe_one (pe_cmpR (op_eqD hr.units) (pe_call SD.G (hr.mono (by omega)) (by rfl) SD.m SD.k SD.b .nil pass0 (pa_cons (pe_make MK GI (hr.mono (by omega)) (by rfl) BK.mgC bI .nil pass0 (pa_cons (pe_lst pa_nil) pa_nil)) (pa_cons pe_str pa_nil))) (pe_tup (pa_cons pe_str (pa_cons pe_str pa_nil))) (nomark _))))))), ?_⟩
  have hs : sizeLine = 16777216 := by decide
  have hnum : ∃ N : Int, N = (if (if ((ns.map V.int).length : Int) < 4 then ((ns.map V.int).length : Int) else 4) > 2 then (if ((ns.map V.int).length : Int) < 4 then ((ns.map V.int).length : Int) else 4) else 2) ∧ 0 ≤ N ∧ N ≤ 4 := by
    refine ⟨_, rfl, ?_, ?_⟩ <;> (split <;> (try split) <;> omega)
  obtain ⟨N, eN, N0, N4⟩ := hnum
  refine ⟨_, rfl, a, _, rfl, .inl hSc, _, _, rfl, _, _, rfl, N, (by rw [eN]), by omega, by omega, ?_⟩
  refine for_range (lo := 0) (n := N.toNat) (fun i σ H' => ∃ (y1 y2 y3 y4 y5 y6 : Option V), σ = [some (.ref a), y1, y2, y3, y4, y5, y6, none] ∧ Same H H') ?_ ?_ ?_
  · exact ⟨none, none, none, none, none, none, rfl, Same.refl _⟩
  · rintro i σ H1 hi ⟨y1, y2, y3, y4, y5, y6, rfl, sH⟩
    have hi5 : i < 4 := by omega
    refine ⟨_, rfl, _, rfl, a, ns, 0 + (i : Int), rfl, sH.seq hSc, by omega, by omega, fun b H2 s2 nb B2 => ?_⟩
    -- four works or twelve
    refine ⟨_, rfl, (by show 2 ≤ sizeLine; decide), fun lm nlm => ?_⟩
    have sm := same_new nlm (.lst [V.int 4, .int 12])
    have hm := upd_same (H := H2) (a := lm) (o := .lst [V.int 4, .int 12])
    have Bm := B2.same sm
    generalize upd H2 lm (.lst [V.int 4, .int 12]) = Hm at sm hm Bm
    refine ⟨_, rfl, b, 4, 15900000, rfl, by decide, by decide, Bm.less (by decide), fun dd Hn d0 d4 Bn Un => ?_⟩
    have nlmb : lm ≠ b := fun z => by obtain ⟨ys, hy⟩ := B2.lst; rw [z, hy] at nlm; cases nlm
    have hM : ∃ M : Nat, 1 ≤ M ∧ M ≤ 12 ∧ atI [V.int 4, .int 12] (if decide (V.int dd = V.int 3) = true then (1 : Int) else 0) = some (.int (M : Int)) := by
      by_cases c : V.int dd = V.int 3
      · rw [decide_eq_true c]
        exact ⟨12, by decide, by decide, rfl⟩
      · rw [decide_eq_false c]
        exact ⟨4, by decide, by decide, rfl⟩
    obtain ⟨M, M1, M12, eM⟩ := hM
    have sn : Same H1 Hn := fresh_but (s2.trans sm) nb Un
    refine ⟨rfl, .inr ⟨_, rfl, ?_⟩⟩
    refine ⟨lm, _, _, _, rfl, rfl, SqL.of (Un _ _ nlmb hm), eM, b, M, 1000000, rfl, M1, M12, Bn.less (by omega), fun l us Ws H3 nl hl hW ok l1 l3 B3 U3 => ?_⟩
    have s3 : Same H1 H3 := fresh_but (s2.trans sm) nb (Un.trans U3)
    have nlb : l ≠ b := fun z => by obtain ⟨ys, hy⟩ := Bn.lst; rw [z, hy] at nl; cases nl
    -- the list handed
    refine ⟨_, rfl, l, us, rfl, .inl (SqL.of hl), fun lh nlh => ?_⟩
    have s4 := same_new nlh (.lst us)
    have h4 := upd_same (H := H3) (a := lh) (o := .lst us)
    generalize upd H3 lh (.lst us) = H4 at s4 h4
    have nlhl : l ≠ lh := ne_of_none hl nlh
    have B4 := B3.same s4
    -- the book
    refine ⟨_, rfl, fun x dx nx ndx nex => ?_⟩
    have sM : Same H4 (upd (upd H4 dx (.own x)) x (.ins C dx [])) := fun y o z => by rw [upd_ne (ne_of_none z nx), upd_ne (ne_of_none z ndx)]; exact z
    refine ⟨x, dx, lh, us, Ws, rfl, upd_same, sM _ _ h4, hW.same (s4.trans sM), ok, fun p H5 kp np hp hx => ⟨rfl, ?_⟩⟩
    have s5 : Same H4 H5 := fun y o z => kp y o (sM _ _ z) (ne_of_none z nx)
    have s35 := s4.trans s5
    have bk5 : BkIn H5 C x Ws := ⟨dx, p, us, hx, hp, hW.same s35⟩
    have B5 := B4.same s5
    have hl5 := s35 _ _ hl
    have h45 := s5 _ _ h4
    have W5 := hW.same s35
    have shW := (wks_shaped ok.each).2
    have rfW : PyData.eqv (.list (Ws.map Wk.dat)) (.list (Ws.map Wk.dat)) = true := by
      have ff : Fit 17 (.list (Ws.map Wk.dat)) := fit_lst fun d hd => by
        obtain ⟨W, hW', rfl⟩ := List.mem_map.mp hd
        exact Wk.fit (ok.each W hW')
      exact SeqAt.eqv_refl _ ff.1
    refine ⟨_, rfl, _, rfl, _, _, .lst (SqL.of h45) (wks_dp W5), .lst (SqL.of hl5) (wks_dp W5), shW, shW, ?_⟩
    rw [rfW]
    refine ⟨false, rfl, ?_⟩
    -- cleared, None laid into it
    refine ⟨_, rfl, .inl ⟨rfl, _, SqL.of h45⟩, lh, _, rfl, rfl, h45, ?_⟩
    have h6 := upd_same (H := H5) (a := lh) (o := .lst [])
    have u6 : But lh H5 (upd H5 lh (.lst [])) := fun y o n z => by rw [upd_ne n]; exact z
    generalize upd H5 lh (.lst []) = H6 at h6 u6
    refine ⟨_, rfl, .inl ⟨rfl, _, SqL.of h6⟩, lh, _, _, rfl, rfl, h6, (by show 0 < sizeLine; decide), ?_⟩
    have u7 : But lh H5 (upd H6 lh (.lst ([] ++ [V.non]))) := fun y o n z => by rw [upd_ne n]; exact u6 y o n z
    generalize upd H6 lh (.lst ([] ++ [V.non])) = H7 at u7
    have k57 : KeepT H5 H7 := .but h45 u7
    have nxl : x ≠ lh := fun z => by rw [z, h45] at hx; cases hx
    have bk7 : BkIn H7 C x Ws := ⟨dx, p, us, u7 _ _ nxl hx, k57 _ _ hp, ⟨W5.1, fun i v e => let ⟨W, y, z⟩ := W5.2 i v e; ⟨W, y, WkIn.keep k57 z⟩⟩⟩
    have hl7 := u7 _ _ nlhl hl5
    have W7 : WksIn H7 Ws us := ⟨W5.1, fun i v e => let ⟨W, y, z⟩ := W5.2 i v e; ⟨W, y, WkIn.keep k57 z⟩⟩
    have nbl : b ≠ lh := fun z => by obtain ⟨ys, hy⟩ := B3.lst; rw [z] at hy; rw [nlh] at hy; cases hy
    have B7 : Bag H7 b 1000000 := by
      obtain ⟨x', y', z', hb', r⟩ := B5
      exact ⟨x', y', z', u7 _ _ nbl hb', r⟩
    have s17 : Same H1 H7 := fun y o z => u7 _ _ (ne_of_none z (s3.free nlh)) (s35 _ _ (s3 _ _ z))
    -- all is right
    refine ⟨_, rfl, _, rfl, x, l, Ws, us, rfl, bk7, hl7, W7, ok, fun H8 s8 => ⟨true, rfl, ?_⟩⟩
    have bk8 := bk7.same s8
    -- the other names
    refine ⟨_, rfl, b, 3, 500000, rfl, by decide, (B7.same s8).less (by decide), fun pn nm H9 npn hpn lnm okn B9 U9 => ?_⟩
    obtain ⟨y8, hy8⟩ := (B7.same s8).lst
    have k89 : KeepT H8 H9 := .but hy8 U9
    have nxb : x ≠ b := fun z => by
      obtain ⟨dx8, p8, us8, hx8, _⟩ := bk8
      rw [z, hy8] at hx8
      cases hx8
    have bk9 : BkIn H9 C x Ws := by
      obtain ⟨dx8, p8, us8, hx8, hp8, hW8⟩ := bk8
      exact ⟨dx8, p8, us8, U9 _ _ nxb hx8, k89 _ _ hp8, ⟨hW8.1, fun i v e => let ⟨W, y, z⟩ := hW8.2 i v e; ⟨W, y, WkIn.keep k89 z⟩⟩⟩
    have hl9 := U9 _ _ nlb (s8 _ _ hl7)
    have W9 : WksIn H9 Ws us := ⟨W7.1, fun i v e => let ⟨W, y, z⟩ := W7.2 i v e; ⟨W, y, WkIn.keep k89 (z.same s8)⟩⟩
    have s19 : Same H1 H9 := fun y o z => U9 _ _ (ne_of_none z nb) (s8 _ _ (s17 _ _ z))
    refine ⟨(by show 3 ≤ sizeLine; decide), fun lq nlq => ?_⟩
    have sq := same_new nlq (.lst [V.str "work", .str "", .str "a b"])
    have hq := upd_same (H := H9) (a := lq) (o := .lst [V.str "work", .str "", .str "a b"])
    generalize upd H9 lq (.lst [V.str "work", .str "", .str "a b"]) = Hq at sq hq
    refine ⟨pn, lq, _, _, rfl, rfl, sq _ _ hpn, hq, by rw [List.length_map, lnm]; decide, fun lr nlr => ?_⟩
    have er : nm.map V.str ++ [V.str "work", .str "", .str "a b"] = (nm ++ (["work", "", "a b"] : List Str)).map V.str := by rw [List.map_append]; rfl
    rw [er]
    have zok : ∀ z ∈ nm ++ (["work", "", "a b"] : List Str), PyData.strOk z = true ∧ z.length ≤ 100000 := by
      intro z hz
      rcases List.mem_append.mp hz with hz | hz
      · have o := (okn.each z hz).1
        refine ⟨strOk_nm o, ?_⟩
        have := o.2.1
        rw [codes_len] at this
        omega
      · rcases List.mem_cons.mp hz with rfl | hz
        · exact ⟨by decide +kernel, by decide +kernel⟩
        rcases List.mem_cons.mp hz with rfl | hz
        · exact ⟨by decide +kernel, by decide +kernel⟩
        · rw [List.mem_singleton.mp hz]
          exact ⟨by decide +kernel, by decide +kernel⟩
    generalize nm ++ (["work", "", "a b"] : List Str) = zs at zok
    have sr := same_new nlr (.lst (zs.map V.str))
    have hr' := upd_same (H := Hq) (a := lr) (o := .lst (zs.map V.str))
    generalize upd Hq lr (.lst (zs.map V.str)) = Hr at sr hr'
    have s9r := sq.trans sr
    refine ⟨lr, rfl, ⟨_, SqL.of hr'⟩, ?_⟩
    refine for_list (K := K) (a := lr) (xs := zs.map V.str) (fun j σ H' => ∃ y6 : Option V, σ = [some (.ref a), some (.int (0 + (i : Int))), some (.ref b), some (.ref l), some (.ref lh), some (.ref x), y6, none] ∧ Same Hr H') ⟨y6, rfl, Same.refl _⟩ (fun j σ H' _ ⟨_, _, s'⟩ => SqL.of (s' _ _ hr')) ?_ ?_
    · rintro j v σ HA hv ⟨y6', rfl, sA⟩
      obtain ⟨z, hz, rfl⟩ := List.mem_map.mp (List.mem_of_getElem? hv)
      obtain ⟨zo, zl⟩ := zok z hz
      have s9A := s9r.trans sA
      refine ⟨_, rfl, _, rfl, l, rfl, ⟨_, SqL.of (s9A _ _ hl9)⟩, ?_⟩
      intro D hD
      refine lc_list (K := K) (a := l) (xs := us) (fun m H' => H' D = some (.lst (((Ws.take m).map Wk.name).map V.str)) ∧ Same HA H') ⟨upd_same, same_new hD _⟩ (fun m H' _ h => SqL.of (h.2 _ _ (s9A _ _ hl9))) ?_ ?_
      · rintro m v HB hvm ⟨hDB, sB⟩
        obtain ⟨W, hWi, hin⟩ := W9.2 m v hvm
        have hm' : m < Ws.length := (List.getElem?_eq_some_iff.mp hWi).1
        obtain ⟨aw, pnw, prw, xsw, rfl, haw, _⟩ := hin.same (s9A.trans sB)
        have few := ok.few
        refine ⟨rfl, ?_⟩
        refine ⟨_, rfl, aw, _, 1, _, rfl, rfl, SqT.of haw, rfl, ?_⟩
        refine ⟨_, hDB, by rw [List.length_map, List.length_map, List.length_take]; omega, ?_, ?_⟩
        · rw [upd_same, List.take_add_one, hWi, List.map_append, List.map_append]
          rfl
        · intro y o e
          rw [upd_ne (ne_of_none e hD)]
          exact sB _ _ e
      rintro HB ⟨hDB, sB⟩
      rw [W9.1, List.take_length] at hDB
      have bkB := bk9.same (s9A.trans sB)
      have eI : inV (.str z) ((Ws.map Wk.name).map V.str) = decide (z ∈ Ws.map Wk.name) := inV_str
      refine ⟨D, _, rfl, .inl (SqL.of hDB), rfl, flat_strs _, !decide (z ∈ Ws.map Wk.name), (by rw [← eI]; rfl), ?_⟩
      by_cases c : z ∈ Ws.map Wk.name
      · rw [decide_eq_true c]
        exact ⟨_, rfl, sA.trans sB⟩
      rw [decide_eq_false c]
      have no : ∀ W ∈ Ws, W.name ≠ z := fun W hW' e => c (List.mem_map.mpr ⟨W, hW', e⟩)
      refine ⟨_, rfl, _, rfl, x, Ws, z, rfl, bkB, zl, fun v W hW' e _ => absurd e (no W hW'), fun _ pt HC sC hpt => ?_⟩
      refine ⟨_, rfl, (by show 2 ≤ sizeLine; decide), fun pd npd => ?_⟩
      have sD := same_new npd (.tup [V.str "missing", .str z])
      have hpd := upd_same (H := HC) (a := pd) (o := .tup [V.str "missing", .str z])
      generalize upd HC pd (.tup [V.str "missing", .str z]) = HD at sD hpd
      obtain ⟨sh, rf⟩ := pair_ok zo
      refine ⟨_, _, pair_dp (sD _ _ hpt), pair_dp hpd, sh, sh, ?_⟩
      rw [rf]
      exact ⟨false, rfl, _, rfl, sA.trans (sB.trans (sC.trans sD))⟩
    · rintro σ HA ⟨y6', rfl, sA⟩
      exact ⟨_, _, _, _, _, _, rfl, sH.trans (s19.trans (s9r.trans sA))⟩
  · rintro σ H1 ⟨y1, y2, y3, y4, y5, y6, rfl, sH⟩
    refine ⟨Nat.zero_le _, fun l1 nl1 => ?_⟩
    have k1 := upd_same (H := H1) (a := l1) (o := .lst [])
    generalize upd H1 l1 (.lst []) = H2 at k1
    refine fun x dx nx ndx nex => ?_
    have sM : Same H2 (upd (upd H2 dx (.own x)) x (.ins C dx [])) := fun y o z => by rw [upd_ne (ne_of_none z nx), upd_ne (ne_of_none z ndx)]; exact z
    refine ⟨x, dx, l1, [], [], rfl, upd_same, sM _ _ k1, w0 _, o0, fun p H3 kp np hp hx => ⟨rfl, ?_⟩⟩
    refine ⟨Nat.zero_le _, fun l2 nl2 => ?_⟩
    have s4 := same_new nl2 (.lst [])
    have k2 := upd_same (H := H3) (a := l2) (o := .lst [])
    generalize upd H3 l2 (.lst []) = H4 at s4 k2
    refine ⟨x, l2, [], [], rfl, ⟨dx, p, [], s4 _ _ hx, s4 _ _ hp, w0 _⟩, k2, w0 _, o0, fun H5 s5 => ⟨true, rfl, ?_⟩⟩
    refine ⟨Nat.zero_le _, fun l6 nl6 => ?_⟩
    have k6 := upd_same (H := H5) (a := l6) (o := .lst [])
    generalize upd H5 l6 (.lst []) = H6 at k6
    refine fun y dy ny ndy ney => ?_
    have sN : Same H6 (upd (upd H6 dy (.own y)) y (.ins C dy [])) := fun u o z => by rw [upd_ne (ne_of_none z ny), upd_ne (ne_of_none z ndy)]; exact z
    refine ⟨y, dy, l6, [], [], rfl, upd_same, sN _ _ k6, w0 _, o0, fun p7 H7 kp7 np7 hp7 hy7 => ⟨rfl, ?_⟩⟩
    refine ⟨y, [], "f", rfl, ⟨dy, p7, [], hy7, hp7, w0 _⟩, by decide +kernel, fun v W hW' => (by cases hW'), fun _ pt H8 s8 hpt => ?_⟩
    refine ⟨(by show 2 ≤ sizeLine; decide), fun pd npd => ?_⟩
    have sD := same_new npd (.tup [V.str "missing", .str "f"])
    have hpd := upd_same (H := H8) (a := pd) (o := .tup [V.str "missing", .str "f"])
    generalize upd H8 pd (.tup [V.str "missing", .str "f"]) = HD at sD hpd
    obtain ⟨sh, rf⟩ := pair_ok (z := "f") (by decide +kernel)
    refine ⟨_, _, pair_dp (sD _ _ hpt), pair_dp hpd, sh, sh, ?_⟩
    rw [rf]
    exact q HD
end
end SH

set_option Elab.async false
set_option linter.all false
set_option maxRecDepth 100000
namespace SH
open PySem L2
theorem isEx_dflt (F : FunD K "is_expression" "is_expression" (defArgs sIsEx) (defBody sIsEx) (defScope sIsEx) [.int 6] [] f fd) : (∃ ds, Vals [V.int 6] ds ∧ Binds K fd ["thing", "deepest"] ds) ∧ Binds K fd ["thing", "deepest"] [] := by
  have one := F.binds1 (ps := ["thing", "deepest"]) 1 0 (by simp) rfl fun T kV doc pm an cdv ct us its h1 h2 => match us, its, h1, h2 with | [_], [_], _, _ => ⟨_, rfl, rfl⟩
  obtain ⟨ds, v, b⟩ := F.binds1 (ps := ["thing", "deepest"]) 2 1 (by simp) rfl fun T kV doc pm an cdv ct us its h1 h2 => match us, its, h1, h2 with | [_, _], [_], _, _ => ⟨_, rfl, rfl⟩
  have e : ds = [] := by
    cases v
    rfl
  exact ⟨one, e ▸ b⟩
theorem kit_self {K : PySem.W.Frag} {t : Addr} : PySem.W.kitOne K (.ref t) (.ref t) = some true := by
  unfold PySem.W.kitOne
  rw [if_pos (by simp)]
theorem kit_own {K : PySem.W.Frag} {t c : Addr} (isC : PySem.W.isClsIn K c = true) (tyC : PySem.W.typeIn K (.ref c) = some (.type "type")) (no : PySem.W.subIn K (.ref t) (.ref c) = some false) (self : PySem.W.subIn K (.ref t) (.ref t) = some true) : PySem.W.kitOne K (.ref t) (.ref c) = some false := by
  have ne : (Value.ref t == Value.ref c) = false := by
    cases e : (Value.ref t == Value.ref c) with
    | false => rfl
    | true =>
      have z : Value.ref t = Value.ref c := by simpa using e
      rw [← z, self] at no
      cases no
  have h2 : ((PySem.W.clsIn K c).isSome && PySem.W.typeIn K (.ref c) == some (.type "type")) = true := by
    have h3 : (PySem.W.clsIn K c).isSome = true := isC
    rw [tyC, h3]
    simp
  unfold PySem.W.kitOne PySem.W.kitCls
  rw [ne]
  simp only [h2, no, if_true, Bool.false_eq_true, if_false]
theorem kit_blt {K : PySem.W.Frag} {t : Addr} {T : String} {b : Bool} (m : PySem.W.kitMeta T = true) (s : PySem.W.subIn K (.ref t) (.type T) = some b) : PySem.W.kitOne K (.ref t) (.type T) = some b := by
  have ne : (Value.ref t == Value.type T) = false := rfl
  unfold PySem.W.kitOne PySem.W.kitCls
  rw [ne]
  simp only [m, s, if_true, Bool.false_eq_true, if_false]
theorem exm_self {K : PySem.W.Frag} {C : Addr} (h1 : PySem.W.subIn K (.ref C) (.type "BaseException") = some true) (isC : PySem.W.isClsIn K C = true) (ht : PySem.W.typeIn K (.ref C) = some (.type "type")) (h4 : PySem.W.subIn K (.ref C) (.ref C) = some true) : PySem.W.exmOne K (.ref C) (.ref C) = some true := by
  have e1 : (PySem.W.subIn K (.ref C) (.type "BaseException") == some true) = true := by rw [h1] <;> rfl
  have e3 : (PySem.W.clsIn K C).isSome = true := isC
  have e2 : ((PySem.W.clsIn K C).isSome && PySem.W.typeIn K (.ref C) == some (.type "type")) = true := by rw [e3, ht] <;> rfl
  show (if (PySem.W.subIn K (.ref C) (.type "BaseException") == some true) = true then (if ((PySem.W.clsIn K C).isSome && PySem.W.typeIn K (.ref C) == some (.type "type")) = true then PySem.W.subIn K (.ref C) (.ref C) else none) else none) = some true
  rw [if_pos e1, if_pos e2]
  exact h4
set_option maxHeartbeats 8000000
theorem all_mk {l : PySem.W.OpenLaw} {w : World} {K : PySem.W.Frag} {h : Heap} {mg : Str → Option Value} {fa f_check_work f_is_work f_is_tuple_of f_is_whole f_is_whole_within f_is_name f_are_names f_is_expression f_is_leaf f_are_expressions f_rows_left f_row_left f_branches_left f_is_if_head f_is_plain_row f_check_works f_check_starts f_handed_counts f_check_start f_starts_in f___init__ f_names f_tree f___len__ f___repr__ f_Lbag f_Ltake f_Lkept f_Lnames f_Lnumber f_Ltree f_Lrow f_Lrows f_Lworks f_Lrefusal f_Lsaid f_Lis_right f_law : Addr} (X : K.In h) (G : h.Ns mainGlobals mg) (hfa : mg "law" = some (.ref fa))
    {od_check_work od_is_work od_is_tuple_of od_is_whole od_is_whole_within od_is_name od_are_names od_is_expression od_is_leaf od_are_expressions od_rows_left od_row_left od_branches_left od_is_if_head od_is_plain_row od_check_works od_check_starts od_handed_counts od_check_start od_starts_in od___init__ od_names od_tree od___len__ od___repr__ od_Lbag od_Ltake od_Lkept od_Lnames od_Lnumber od_Ltree od_Lrow od_Lrows od_Lworks od_Lrefusal od_Lsaid od_Lis_right od_law an_check_work an_is_work an_is_tuple_of an_is_whole an_is_whole_within an_is_name an_are_names an_is_expression an_is_leaf an_are_expressions an_rows_left an_row_left an_branches_left an_is_if_head an_is_plain_row an_check_works an_check_starts an_handed_counts an_check_start an_starts_in an___init__ an_names an_tree an___len__ an___repr__ an_Lbag an_Ltake an_Lkept an_Lnames an_Lnumber an_Ltree an_Lrow an_Lrows an_Lworks an_Lrefusal an_Lsaid an_Lis_right an_law : Option Addr} {sl_check_work sl_is_work sl_is_tuple_of sl_is_whole sl_is_whole_within sl_is_name sl_are_names sl_is_expression sl_is_leaf sl_are_expressions sl_rows_left sl_row_left sl_branches_left sl_is_if_head sl_is_plain_row sl_check_works sl_check_starts sl_handed_counts sl_check_start sl_starts_in sl___init__ sl_names sl_tree sl___len__ sl___repr__ sl_Lbag sl_Ltake sl_Lkept sl_Lnames sl_Lnumber sl_Ltree sl_Lrow sl_Lrows sl_Lworks sl_Lrefusal sl_Lsaid sl_Lis_right sl_law : Array (Option Value)} {oc_check_work oc_is_work oc_is_tuple_of oc_is_whole oc_is_whole_within oc_is_name oc_are_names oc_is_expression oc_is_leaf oc_are_expressions oc_rows_left oc_row_left oc_branches_left oc_is_if_head oc_is_plain_row oc_check_works oc_check_starts oc_handed_counts oc_check_start oc_starts_in oc___init__ oc_names oc_tree oc___len__ oc___repr__ oc_Lbag oc_Ltake oc_Lkept oc_Lnames oc_Lnumber oc_Ltree oc_Lrow oc_Lrows oc_Lworks oc_Lrefusal oc_Lsaid oc_Lis_right oc_law kV_check_work kV_is_work kV_is_tuple_of kV_is_whole kV_is_whole_within kV_is_name kV_are_names kV_is_expression kV_is_leaf kV_are_expressions kV_rows_left kV_row_left kV_branches_left kV_is_if_head kV_is_plain_row kV_check_works kV_check_starts kV_handed_counts kV_check_start kV_starts_in kV___init__ kV_names kV_tree kV___len__ kV___repr__ kV_Lbag kV_Ltake kV_Lkept kV_Lnames kV_Lnumber kV_Ltree kV_Lrow kV_Lrows kV_Lworks kV_Lrefusal kV_Lsaid kV_Lis_right kV_law dc_check_work dc_is_work dc_is_tuple_of dc_is_whole dc_is_whole_within dc_is_name dc_are_names dc_is_expression dc_is_leaf dc_are_expressions dc_rows_left dc_row_left dc_branches_left dc_is_if_head dc_is_plain_row dc_check_works dc_check_starts dc_handed_counts dc_check_start dc_starts_in dc___init__ dc_names dc_tree dc___len__ dc___repr__ dc_Lbag dc_Ltake dc_Lkept dc_Lnames dc_Lnumber dc_Ltree dc_Lrow dc_Lrows dc_Lworks dc_Lrefusal dc_Lsaid dc_Lis_right dc_law pm_check_work pm_is_work pm_is_tuple_of pm_is_whole pm_is_whole_within pm_is_name pm_are_names pm_is_expression pm_is_leaf pm_are_expressions pm_rows_left pm_row_left pm_branches_left pm_is_if_head pm_is_plain_row pm_check_works pm_check_starts pm_handed_counts pm_check_start pm_starts_in pm___init__ pm_names pm_tree pm___len__ pm___repr__ pm_Lbag pm_Ltake pm_Lkept pm_Lnames pm_Lnumber pm_Ltree pm_Lrow pm_Lrows pm_Lworks pm_Lrefusal pm_Lsaid pm_Lis_right pm_law cd_check_work cd_is_work cd_is_tuple_of cd_is_whole cd_is_whole_within cd_is_name cd_are_names cd_is_expression cd_is_leaf cd_are_expressions cd_rows_left cd_row_left cd_branches_left cd_is_if_head cd_is_plain_row cd_check_works cd_check_starts cd_handed_counts cd_check_start cd_starts_in cd___init__ cd_names cd_tree cd___len__ cd___repr__ cd_Lbag cd_Ltake cd_Lkept cd_Lnames cd_Lnumber cd_Ltree cd_Lrow cd_Lrows cd_Lworks cd_Lrefusal cd_Lsaid cd_Lis_right cd_law ct_check_work ct_is_work ct_is_tuple_of ct_is_whole ct_is_whole_within ct_is_name ct_are_names ct_is_expression ct_is_leaf ct_are_expressions ct_rows_left ct_row_left ct_branches_left ct_is_if_head ct_is_plain_row ct_check_works ct_check_starts ct_handed_counts ct_check_start ct_starts_in ct___init__ ct_names ct_tree ct___len__ ct___repr__ ct_Lbag ct_Ltake ct_Lkept ct_Lnames ct_Lnumber ct_Ltree ct_Lrow ct_Lrows ct_Lworks ct_Lrefusal ct_Lsaid ct_Lis_right ct_law : Value}
    {TD : Addr} {oTD : Obj} {iTD : List Value} {nTD : Nat}
    {C : Addr} (aC : PySem.W.nsIn K mainGlobals "Book" = some (some (.ref C)))
    (a_check_work : PySem.W.nsIn K mainGlobals "check_work" = some (some (.ref f_check_work))) (l_check_work : K.lookup f_check_work = some ⟨oc_check_work, od_check_work, .func (PySem.W.fnOf "check_work" "check_work" (defArgs sChkWork) (defBody sChkWork) (defScope sChkWork) .none kV_check_work dc_check_work pm_check_work an_check_work cd_check_work ct_check_work), sl_check_work⟩) (c_check_work : PySem.W.codeIn K cd_check_work "check_work" = true) (k_check_work : PySem.W.keepIn K (.ref f_check_work) = true)
    (a_is_work : PySem.W.nsIn K mainGlobals "is_work" = some (some (.ref f_is_work))) (l_is_work : K.lookup f_is_work = some ⟨oc_is_work, od_is_work, .func (PySem.W.fnOf "is_work" "is_work" (defArgs sIsWork) (defBody sIsWork) (defScope sIsWork) .none kV_is_work dc_is_work pm_is_work an_is_work cd_is_work ct_is_work), sl_is_work⟩) (c_is_work : PySem.W.codeIn K cd_is_work "is_work" = true) (k_is_work : PySem.W.keepIn K (.ref f_is_work) = true)
    (a_is_tuple_of : PySem.W.nsIn K mainGlobals "is_tuple_of" = some (some (.ref f_is_tuple_of))) (l_is_tuple_of : K.lookup f_is_tuple_of = some ⟨oc_is_tuple_of, od_is_tuple_of, .func (PySem.W.fnOf "is_tuple_of" "is_tuple_of" (defArgs sTupOf) (defBody sTupOf) (defScope sTupOf) .none kV_is_tuple_of dc_is_tuple_of pm_is_tuple_of an_is_tuple_of cd_is_tuple_of ct_is_tuple_of), sl_is_tuple_of⟩) (c_is_tuple_of : PySem.W.codeIn K cd_is_tuple_of "is_tuple_of" = true) (k_is_tuple_of : PySem.W.keepIn K (.ref f_is_tuple_of) = true)
    (a_is_whole : PySem.W.nsIn K mainGlobals "is_whole" = some (some (.ref f_is_whole))) (l_is_whole : K.lookup f_is_whole = some ⟨oc_is_whole, od_is_whole, .func (PySem.W.fnOf "is_whole" "is_whole" (defArgs sWhole) (defBody sWhole) (defScope sWhole) .none kV_is_whole dc_is_whole pm_is_whole an_is_whole cd_is_whole ct_is_whole), sl_is_whole⟩) (c_is_whole : PySem.W.codeIn K cd_is_whole "is_whole" = true) (k_is_whole : PySem.W.keepIn K (.ref f_is_whole) = true)
    (a_is_whole_within : PySem.W.nsIn K mainGlobals "is_whole_within" = some (some (.ref f_is_whole_within))) (l_is_whole_within : K.lookup f_is_whole_within = some ⟨oc_is_whole_within, od_is_whole_within, .func (PySem.W.fnOf "is_whole_within" "is_whole_within" (defArgs sWithin) (defBody sWithin) (defScope sWithin) .none kV_is_whole_within dc_is_whole_within pm_is_whole_within an_is_whole_within cd_is_whole_within ct_is_whole_within), sl_is_whole_within⟩) (c_is_whole_within : PySem.W.codeIn K cd_is_whole_within "is_whole_within" = true) (k_is_whole_within : PySem.W.keepIn K (.ref f_is_whole_within) = true)
    (a_is_name : PySem.W.nsIn K mainGlobals "is_name" = some (some (.ref f_is_name))) (l_is_name : K.lookup f_is_name = some ⟨oc_is_name, od_is_name, .func (PySem.W.fnOf "is_name" "is_name" (defArgs sIsName) (defBody sIsName) (defScope sIsName) .none kV_is_name dc_is_name pm_is_name an_is_name cd_is_name ct_is_name), sl_is_name⟩) (c_is_name : PySem.W.codeIn K cd_is_name "is_name" = true) (k_is_name : PySem.W.keepIn K (.ref f_is_name) = true)
    (a_are_names : PySem.W.nsIn K mainGlobals "are_names" = some (some (.ref f_are_names))) (l_are_names : K.lookup f_are_names = some ⟨oc_are_names, od_are_names, .func (PySem.W.fnOf "are_names" "are_names" (defArgs sAreNames) (defBody sAreNames) (defScope sAreNames) .none kV_are_names dc_are_names pm_are_names an_are_names cd_are_names ct_are_names), sl_are_names⟩) (c_are_names : PySem.W.codeIn K cd_are_names "are_names" = true) (k_are_names : PySem.W.keepIn K (.ref f_are_names) = true)
    (a_is_expression : PySem.W.nsIn K mainGlobals "is_expression" = some (some (.ref f_is_expression))) (l_is_expression : K.lookup f_is_expression = some ⟨oc_is_expression, od_is_expression, .func (PySem.W.fnOf "is_expression" "is_expression" (defArgs sIsEx) (defBody sIsEx) (defScope sIsEx) (.ref TD) kV_is_expression dc_is_expression pm_is_expression an_is_expression cd_is_expression ct_is_expression), sl_is_expression⟩) (c_is_expression : PySem.W.codeIn K cd_is_expression "is_expression" = true) (k_is_expression : PySem.W.keepIn K (.ref f_is_expression) = true)
    (a_is_leaf : PySem.W.nsIn K mainGlobals "is_leaf" = some (some (.ref f_is_leaf))) (l_is_leaf : K.lookup f_is_leaf = some ⟨oc_is_leaf, od_is_leaf, .func (PySem.W.fnOf "is_leaf" "is_leaf" (defArgs sLeaf) (defBody sLeaf) (defScope sLeaf) .none kV_is_leaf dc_is_leaf pm_is_leaf an_is_leaf cd_is_leaf ct_is_leaf), sl_is_leaf⟩) (c_is_leaf : PySem.W.codeIn K cd_is_leaf "is_leaf" = true) (k_is_leaf : PySem.W.keepIn K (.ref f_is_leaf) = true)
    (a_are_expressions : PySem.W.nsIn K mainGlobals "are_expressions" = some (some (.ref f_are_expressions))) (l_are_expressions : K.lookup f_are_expressions = some ⟨oc_are_expressions, od_are_expressions, .func (PySem.W.fnOf "are_expressions" "are_expressions" (defArgs sAreEx) (defBody sAreEx) (defScope sAreEx) .none kV_are_expressions dc_are_expressions pm_are_expressions an_are_expressions cd_are_expressions ct_are_expressions), sl_are_expressions⟩) (c_are_expressions : PySem.W.codeIn K cd_are_expressions "are_expressions" = true) (k_are_expressions : PySem.W.keepIn K (.ref f_are_expressions) = true)
    (a_rows_left : PySem.W.nsIn K mainGlobals "rows_left" = some (some (.ref f_rows_left))) (l_rows_left : K.lookup f_rows_left = some ⟨oc_rows_left, od_rows_left, .func (PySem.W.fnOf "rows_left" "rows_left" (defArgs sRowsL) (defBody sRowsL) (defScope sRowsL) .none kV_rows_left dc_rows_left pm_rows_left an_rows_left cd_rows_left ct_rows_left), sl_rows_left⟩) (c_rows_left : PySem.W.codeIn K cd_rows_left "rows_left" = true) (k_rows_left : PySem.W.keepIn K (.ref f_rows_left) = true)
    (a_row_left : PySem.W.nsIn K mainGlobals "row_left" = some (some (.ref f_row_left))) (l_row_left : K.lookup f_row_left = some ⟨oc_row_left, od_row_left, .func (PySem.W.fnOf "row_left" "row_left" (defArgs sRowL) (defBody sRowL) (defScope sRowL) .none kV_row_left dc_row_left pm_row_left an_row_left cd_row_left ct_row_left), sl_row_left⟩) (c_row_left : PySem.W.codeIn K cd_row_left "row_left" = true) (k_row_left : PySem.W.keepIn K (.ref f_row_left) = true)
    (a_branches_left : PySem.W.nsIn K mainGlobals "branches_left" = some (some (.ref f_branches_left))) (l_branches_left : K.lookup f_branches_left = some ⟨oc_branches_left, od_branches_left, .func (PySem.W.fnOf "branches_left" "branches_left" (defArgs sBranL) (defBody sBranL) (defScope sBranL) .none kV_branches_left dc_branches_left pm_branches_left an_branches_left cd_branches_left ct_branches_left), sl_branches_left⟩) (c_branches_left : PySem.W.codeIn K cd_branches_left "branches_left" = true) (k_branches_left : PySem.W.keepIn K (.ref f_branches_left) = true)
    (a_is_if_head : PySem.W.nsIn K mainGlobals "is_if_head" = some (some (.ref f_is_if_head))) (l_is_if_head : K.lookup f_is_if_head = some ⟨oc_is_if_head, od_is_if_head, .func (PySem.W.fnOf "is_if_head" "is_if_head" (defArgs sIfHead) (defBody sIfHead) (defScope sIfHead) .none kV_is_if_head dc_is_if_head pm_is_if_head an_is_if_head cd_is_if_head ct_is_if_head), sl_is_if_head⟩) (c_is_if_head : PySem.W.codeIn K cd_is_if_head "is_if_head" = true) (k_is_if_head : PySem.W.keepIn K (.ref f_is_if_head) = true)
    (a_is_plain_row : PySem.W.nsIn K mainGlobals "is_plain_row" = some (some (.ref f_is_plain_row))) (l_is_plain_row : K.lookup f_is_plain_row = some ⟨oc_is_plain_row, od_is_plain_row, .func (PySem.W.fnOf "is_plain_row" "is_plain_row" (defArgs sPlain) (defBody sPlain) (defScope sPlain) .none kV_is_plain_row dc_is_plain_row pm_is_plain_row an_is_plain_row cd_is_plain_row ct_is_plain_row), sl_is_plain_row⟩) (c_is_plain_row : PySem.W.codeIn K cd_is_plain_row "is_plain_row" = true) (k_is_plain_row : PySem.W.keepIn K (.ref f_is_plain_row) = true)
    (a_check_works : PySem.W.nsIn K mainGlobals "check_works" = some (some (.ref f_check_works))) (l_check_works : K.lookup f_check_works = some ⟨oc_check_works, od_check_works, .func (PySem.W.fnOf "check_works" "check_works" (defArgs sChkWorks) (defBody sChkWorks) (defScope sChkWorks) .none kV_check_works dc_check_works pm_check_works an_check_works cd_check_works ct_check_works), sl_check_works⟩) (c_check_works : PySem.W.codeIn K cd_check_works "check_works" = true) (k_check_works : PySem.W.keepIn K (.ref f_check_works) = true)
    (a_check_starts : PySem.W.nsIn K mainGlobals "check_starts" = some (some (.ref f_check_starts))) (l_check_starts : K.lookup f_check_starts = some ⟨oc_check_starts, od_check_starts, .func (PySem.W.fnOf "check_starts" "check_starts" (defArgs sChkStarts) (defBody sChkStarts) (defScope sChkStarts) .none kV_check_starts dc_check_starts pm_check_starts an_check_starts cd_check_starts ct_check_starts), sl_check_starts⟩) (c_check_starts : PySem.W.codeIn K cd_check_starts "check_starts" = true) (k_check_starts : PySem.W.keepIn K (.ref f_check_starts) = true)
    (a_handed_counts : PySem.W.nsIn K mainGlobals "handed_counts" = some (some (.ref f_handed_counts))) (l_handed_counts : K.lookup f_handed_counts = some ⟨oc_handed_counts, od_handed_counts, .func (PySem.W.fnOf "handed_counts" "handed_counts" (defArgs sHanded) (defBody sHanded) (defScope sHanded) .none kV_handed_counts dc_handed_counts pm_handed_counts an_handed_counts cd_handed_counts ct_handed_counts), sl_handed_counts⟩) (c_handed_counts : PySem.W.codeIn K cd_handed_counts "handed_counts" = true) (k_handed_counts : PySem.W.keepIn K (.ref f_handed_counts) = true)
    (a_check_start : PySem.W.nsIn K mainGlobals "check_start" = some (some (.ref f_check_start))) (l_check_start : K.lookup f_check_start = some ⟨oc_check_start, od_check_start, .func (PySem.W.fnOf "check_start" "check_start" (defArgs sChkStart) (defBody sChkStart) (defScope sChkStart) .none kV_check_start dc_check_start pm_check_start an_check_start cd_check_start ct_check_start), sl_check_start⟩) (c_check_start : PySem.W.codeIn K cd_check_start "check_start" = true) (k_check_start : PySem.W.keepIn K (.ref f_check_start) = true)
    (a_starts_in : PySem.W.nsIn K mainGlobals "starts_in" = some (some (.ref f_starts_in))) (l_starts_in : K.lookup f_starts_in = some ⟨oc_starts_in, od_starts_in, .func (PySem.W.fnOf "starts_in" "starts_in" (defArgs sStartsIn) (defBody sStartsIn) (defScope sStartsIn) .none kV_starts_in dc_starts_in pm_starts_in an_starts_in cd_starts_in ct_starts_in), sl_starts_in⟩) (c_starts_in : PySem.W.codeIn K cd_starts_in "starts_in" = true) (k_starts_in : PySem.W.keepIn K (.ref f_starts_in) = true)
    (a___init__ : PySem.W.findIn K (.ref C) "__init__" = some (some (.ref f___init__))) (l___init__ : K.lookup f___init__ = some ⟨oc___init__, od___init__, .func (PySem.W.fnOf "__init__" "Book.__init__" (defArgs sBookInit) (defBody sBookInit) (defScope sBookInit) .none kV___init__ dc___init__ pm___init__ an___init__ cd___init__ ct___init__), sl___init__⟩) (c___init__ : PySem.W.codeIn K cd___init__ "Book.__init__" = true) (k___init__ : PySem.W.keepIn K (.ref f___init__) = true)
    (i___init__ : PySem.W.isFn K (.ref f___init__) = true)
    (a_names : PySem.W.findIn K (.ref C) "names" = some (some (.ref f_names))) (l_names : K.lookup f_names = some ⟨oc_names, od_names, .func (PySem.W.fnOf "names" "Book.names" (defArgs sBookNames) (defBody sBookNames) (defScope sBookNames) .none kV_names dc_names pm_names an_names cd_names ct_names), sl_names⟩) (c_names : PySem.W.codeIn K cd_names "Book.names" = true) (k_names : PySem.W.keepIn K (.ref f_names) = true)
    (i_names : PySem.W.isFn K (.ref f_names) = true)
    (a_tree : PySem.W.findIn K (.ref C) "tree" = some (some (.ref f_tree))) (l_tree : K.lookup f_tree = some ⟨oc_tree, od_tree, .func (PySem.W.fnOf "tree" "Book.tree" (defArgs sBookTree) (defBody sBookTree) (defScope sBookTree) .none kV_tree dc_tree pm_tree an_tree cd_tree ct_tree), sl_tree⟩) (c_tree : PySem.W.codeIn K cd_tree "Book.tree" = true) (k_tree : PySem.W.keepIn K (.ref f_tree) = true)
    (i_tree : PySem.W.isFn K (.ref f_tree) = true)
    (a___len__ : PySem.W.findIn K (.ref C) "__len__" = some (some (.ref f___len__))) (l___len__ : K.lookup f___len__ = some ⟨oc___len__, od___len__, .func (PySem.W.fnOf "__len__" "Book.__len__" (defArgs sBookLen) (defBody sBookLen) (defScope sBookLen) .none kV___len__ dc___len__ pm___len__ an___len__ cd___len__ ct___len__), sl___len__⟩) (c___len__ : PySem.W.codeIn K cd___len__ "Book.__len__" = true) (k___len__ : PySem.W.keepIn K (.ref f___len__) = true)
    (i___len__ : PySem.W.isFn K (.ref f___len__) = true)
    (a___repr__ : PySem.W.findIn K (.ref C) "__repr__" = some (some (.ref f___repr__))) (l___repr__ : K.lookup f___repr__ = some ⟨oc___repr__, od___repr__, .func (PySem.W.fnOf "__repr__" "Book.__repr__" (defArgs sBookRepr) (defBody sBookRepr) (defScope sBookRepr) .none kV___repr__ dc___repr__ pm___repr__ an___repr__ cd___repr__ ct___repr__), sl___repr__⟩) (c___repr__ : PySem.W.codeIn K cd___repr__ "Book.__repr__" = true) (k___repr__ : PySem.W.keepIn K (.ref f___repr__) = true)
    (i___repr__ : PySem.W.isFn K (.ref f___repr__) = true)
    (a_Lbag : PySem.W.nsIn K mainGlobals "_law_bag" = some (some (.ref f_Lbag))) (l_Lbag : K.lookup f_Lbag = some ⟨oc_Lbag, od_Lbag, .func (PySem.W.fnOf "_law_bag" "_law_bag" (defArgs sBag) (defBody sBag) (defScope sBag) .none kV_Lbag dc_Lbag pm_Lbag an_Lbag cd_Lbag ct_Lbag), sl_Lbag⟩) (c_Lbag : PySem.W.codeIn K cd_Lbag "_law_bag" = true) (k_Lbag : PySem.W.keepIn K (.ref f_Lbag) = true)
    (a_Ltake : PySem.W.nsIn K mainGlobals "_law_take" = some (some (.ref f_Ltake))) (l_Ltake : K.lookup f_Ltake = some ⟨oc_Ltake, od_Ltake, .func (PySem.W.fnOf "_law_take" "_law_take" (defArgs sTake) (defBody sTake) (defScope sTake) .none kV_Ltake dc_Ltake pm_Ltake an_Ltake cd_Ltake ct_Ltake), sl_Ltake⟩) (c_Ltake : PySem.W.codeIn K cd_Ltake "_law_take" = true) (k_Ltake : PySem.W.keepIn K (.ref f_Ltake) = true)
    (a_Lkept : PySem.W.nsIn K mainGlobals "_law_kept" = some (some (.ref f_Lkept))) (l_Lkept : K.lookup f_Lkept = some ⟨oc_Lkept, od_Lkept, .func (PySem.W.fnOf "_law_kept" "_law_kept" (defArgs sKept) (defBody sKept) (defScope sKept) .none kV_Lkept dc_Lkept pm_Lkept an_Lkept cd_Lkept ct_Lkept), sl_Lkept⟩) (c_Lkept : PySem.W.codeIn K cd_Lkept "_law_kept" = true) (k_Lkept : PySem.W.keepIn K (.ref f_Lkept) = true)
    (a_Lnames : PySem.W.nsIn K mainGlobals "_law_names" = some (some (.ref f_Lnames))) (l_Lnames : K.lookup f_Lnames = some ⟨oc_Lnames, od_Lnames, .func (PySem.W.fnOf "_law_names" "_law_names" (defArgs sNames) (defBody sNames) (defScope sNames) .none kV_Lnames dc_Lnames pm_Lnames an_Lnames cd_Lnames ct_Lnames), sl_Lnames⟩) (c_Lnames : PySem.W.codeIn K cd_Lnames "_law_names" = true) (k_Lnames : PySem.W.keepIn K (.ref f_Lnames) = true)
    (a_Lnumber : PySem.W.nsIn K mainGlobals "_law_number" = some (some (.ref f_Lnumber))) (l_Lnumber : K.lookup f_Lnumber = some ⟨oc_Lnumber, od_Lnumber, .func (PySem.W.fnOf "_law_number" "_law_number" (defArgs sNumber) (defBody sNumber) (defScope sNumber) .none kV_Lnumber dc_Lnumber pm_Lnumber an_Lnumber cd_Lnumber ct_Lnumber), sl_Lnumber⟩) (c_Lnumber : PySem.W.codeIn K cd_Lnumber "_law_number" = true) (k_Lnumber : PySem.W.keepIn K (.ref f_Lnumber) = true)
    (a_Ltree : PySem.W.nsIn K mainGlobals "_law_tree" = some (some (.ref f_Ltree))) (l_Ltree : K.lookup f_Ltree = some ⟨oc_Ltree, od_Ltree, .func (PySem.W.fnOf "_law_tree" "_law_tree" (defArgs sTree) (defBody sTree) (defScope sTree) .none kV_Ltree dc_Ltree pm_Ltree an_Ltree cd_Ltree ct_Ltree), sl_Ltree⟩) (c_Ltree : PySem.W.codeIn K cd_Ltree "_law_tree" = true) (k_Ltree : PySem.W.keepIn K (.ref f_Ltree) = true)
    (a_Lrow : PySem.W.nsIn K mainGlobals "_law_row" = some (some (.ref f_Lrow))) (l_Lrow : K.lookup f_Lrow = some ⟨oc_Lrow, od_Lrow, .func (PySem.W.fnOf "_law_row" "_law_row" (defArgs sRow) (defBody sRow) (defScope sRow) .none kV_Lrow dc_Lrow pm_Lrow an_Lrow cd_Lrow ct_Lrow), sl_Lrow⟩) (c_Lrow : PySem.W.codeIn K cd_Lrow "_law_row" = true) (k_Lrow : PySem.W.keepIn K (.ref f_Lrow) = true)
    (a_Lrows : PySem.W.nsIn K mainGlobals "_law_rows" = some (some (.ref f_Lrows))) (l_Lrows : K.lookup f_Lrows = some ⟨oc_Lrows, od_Lrows, .func (PySem.W.fnOf "_law_rows" "_law_rows" (defArgs sRows) (defBody sRows) (defScope sRows) .none kV_Lrows dc_Lrows pm_Lrows an_Lrows cd_Lrows ct_Lrows), sl_Lrows⟩) (c_Lrows : PySem.W.codeIn K cd_Lrows "_law_rows" = true) (k_Lrows : PySem.W.keepIn K (.ref f_Lrows) = true)
    (a_Lworks : PySem.W.nsIn K mainGlobals "_law_works" = some (some (.ref f_Lworks))) (l_Lworks : K.lookup f_Lworks = some ⟨oc_Lworks, od_Lworks, .func (PySem.W.fnOf "_law_works" "_law_works" (defArgs sWorks) (defBody sWorks) (defScope sWorks) .none kV_Lworks dc_Lworks pm_Lworks an_Lworks cd_Lworks ct_Lworks), sl_Lworks⟩) (c_Lworks : PySem.W.codeIn K cd_Lworks "_law_works" = true) (k_Lworks : PySem.W.keepIn K (.ref f_Lworks) = true)
    (a_Lrefusal : PySem.W.nsIn K mainGlobals "_law_refusal" = some (some (.ref f_Lrefusal))) (l_Lrefusal : K.lookup f_Lrefusal = some ⟨oc_Lrefusal, od_Lrefusal, .func (PySem.W.fnOf "_law_refusal" "_law_refusal" (defArgs sRefusal) (defBody sRefusal) (defScope sRefusal) .none kV_Lrefusal dc_Lrefusal pm_Lrefusal an_Lrefusal cd_Lrefusal ct_Lrefusal), sl_Lrefusal⟩) (c_Lrefusal : PySem.W.codeIn K cd_Lrefusal "_law_refusal" = true) (k_Lrefusal : PySem.W.keepIn K (.ref f_Lrefusal) = true)
    (a_Lsaid : PySem.W.nsIn K mainGlobals "_law_said" = some (some (.ref f_Lsaid))) (l_Lsaid : K.lookup f_Lsaid = some ⟨oc_Lsaid, od_Lsaid, .func (PySem.W.fnOf "_law_said" "_law_said" (defArgs sSaid) (defBody sSaid) (defScope sSaid) .none kV_Lsaid dc_Lsaid pm_Lsaid an_Lsaid cd_Lsaid ct_Lsaid), sl_Lsaid⟩) (c_Lsaid : PySem.W.codeIn K cd_Lsaid "_law_said" = true) (k_Lsaid : PySem.W.keepIn K (.ref f_Lsaid) = true)
    (a_Lis_right : PySem.W.nsIn K mainGlobals "_law_is_right" = some (some (.ref f_Lis_right))) (l_Lis_right : K.lookup f_Lis_right = some ⟨oc_Lis_right, od_Lis_right, .func (PySem.W.fnOf "_law_is_right" "_law_is_right" (defArgs sRight2) (defBody sRight2) (defScope sRight2) .none kV_Lis_right dc_Lis_right pm_Lis_right an_Lis_right cd_Lis_right ct_Lis_right), sl_Lis_right⟩) (c_Lis_right : PySem.W.codeIn K cd_Lis_right "_law_is_right" = true) (k_Lis_right : PySem.W.keepIn K (.ref f_Lis_right) = true)
    (a_law : PySem.W.nsIn K mainGlobals "law" = some (some (.ref f_law))) (l_law : K.lookup f_law = some ⟨oc_law, od_law, .func (PySem.W.fnOf "law" "law" (defArgs sLaw) (defBody sLaw) (defScope sLaw) .none kV_law dc_law pm_law an_law cd_law ct_law), sl_law⟩) (c_law : PySem.W.codeIn K cd_law "law" = true) (k_law : PySem.W.keepIn K (.ref f_law) = true)
    (z_len : PySem.W.nsIn K mainGlobals "len" = some none)
    (z_abs : PySem.W.nsIn K mainGlobals "abs" = some none)
    (z_int : PySem.W.nsIn K mainGlobals "int" = some none)
    (z_str : PySem.W.nsIn K mainGlobals "str" = some none)
    (z_range : PySem.W.nsIn K mainGlobals "range" = some none)
    (z_max : PySem.W.nsIn K mainGlobals "max" = some none)
    (z_min : PySem.W.nsIn K mainGlobals "min" = some none)
    (z_isinstance : PySem.W.nsIn K mainGlobals "isinstance" = some none)
    (z_all : PySem.W.nsIn K mainGlobals "all" = some none)
    (z_tuple : PySem.W.nsIn K mainGlobals "tuple" = some none)
    (z_bool : PySem.W.nsIn K mainGlobals "bool" = some none)
    (z_set : PySem.W.nsIn K mainGlobals "set" = some none)
    (z_list : PySem.W.nsIn K mainGlobals "list" = some none)
    (z_repr : PySem.W.nsIn K mainGlobals "repr" = some none)
    (z_super : PySem.W.nsIn K mainGlobals "super" = some none)
    (z_ValueError : PySem.W.nsIn K mainGlobals "ValueError" = some none)
    (z_LookupError : PySem.W.nsIn K mainGlobals "LookupError" = some none)
    (z_RuntimeError : PySem.W.nsIn K mainGlobals "RuntimeError" = some none)
    (z_ArithmeticError : PySem.W.nsIn K mainGlobals "ArithmeticError" = some none)
    (z_KeyError : PySem.W.nsIn K mainGlobals "KeyError" = some none)
    (z_IndexError : PySem.W.nsIn K mainGlobals "IndexError" = some none)
    (z_ZeroDivisionError : PySem.W.nsIn K mainGlobals "ZeroDivisionError" = some none)
    {tLt : Tok} (gLt : PySem.W.nsIn K mainGlobals "LETTERS" = some (some (.str "abcdefghijklmnopqrstuvwxyz" tLt)))
    {t_MOST_WORKS t_MOST_ROWS t_MOST_NAMES t_MOST_EXPRESSIONS t_MOST_IFS t_MOST_LETTERS t_MOST_ROOM t_MOST_NUMBER t_NO_ROWS : Tok} (g_MOST_WORKS : PySem.W.nsIn K mainGlobals "MOST_WORKS" = some (some (.int 12 t_MOST_WORKS))) (g_MOST_ROWS : PySem.W.nsIn K mainGlobals "MOST_ROWS" = some (some (.int 40 t_MOST_ROWS))) (g_MOST_NAMES : PySem.W.nsIn K mainGlobals "MOST_NAMES" = some (some (.int 4 t_MOST_NAMES))) (g_MOST_EXPRESSIONS : PySem.W.nsIn K mainGlobals "MOST_EXPRESSIONS" = some (some (.int 4 t_MOST_EXPRESSIONS))) (g_MOST_IFS : PySem.W.nsIn K mainGlobals "MOST_IFS" = some (some (.int 3 t_MOST_IFS))) (g_MOST_LETTERS : PySem.W.nsIn K mainGlobals "MOST_LETTERS" = some (some (.int 8 t_MOST_LETTERS))) (g_MOST_ROOM : PySem.W.nsIn K mainGlobals "MOST_ROOM" = some (some (.int 1000 t_MOST_ROOM))) (g_MOST_NUMBER : PySem.W.nsIn K mainGlobals "MOST_NUMBER" = some (some (.int 999999999999999999999999999999 t_MOST_NUMBER))) (g_NO_ROWS : PySem.W.nsIn K mainGlobals "NO_ROWS" = some (some (.int (-1) t_NO_ROWS)))
    {aW aS : Addr} {dW dS : Option Addr} {iW iS : List Value} {nW nS : Nat} {sW sS : Array (Option Value)} (gW : PySem.W.nsIn K mainGlobals "WORDS" = some (some (.ref aW)))(lW : K.lookup aW = some ⟨.type "tuple", dW, .seq iW.toArray nW, sW⟩)(vW : Vals (kept.map V.str) iW)(gS : PySem.W.nsIn K mainGlobals "SIGNS" = some (some (.ref aS)))(lS : K.lookup aS = some ⟨.type "tuple", dS, .seq iS.toArray nS, sS⟩)(vS : Vals (signsL.map V.str) iS)
    (lTD : K.lookup TD = some oTD)(oTD0 : oTD.data = .seq iTD.toArray nTD)(vTD : Vals [V.int 6] iTD)
    (pg : PySem.W.plainGet K C Str.empty = true)(hd : PySem.W.hasDictIn K C = true)(po : PySem.W.plainOver K C = true)(sa : PySem.W.findIn K (.ref C) "__setattr__" = some (some (.builtin "object.__setattr__")))(mk : PySem.W.makesIn K C = true)(kc : PySem.W.keepIn K (.ref C) = true)(nWk : PySem.W.findIn K (.ref C) "works" = some none)(hB0 : PySem.W.findIn K (.ref C) "__bool__" = some none)
    {cBadText cBadTree cBadArgs cBadHall cBadTurn cNoRow cMissing cBare cSpent cBroken cStealError : Addr}
    (aBadText : PySem.W.nsIn K mainGlobals "BadText" = some (some (.ref cBadText)))
    (aBadTree : PySem.W.nsIn K mainGlobals "BadTree" = some (some (.ref cBadTree)))
    (aBadArgs : PySem.W.nsIn K mainGlobals "BadArgs" = some (some (.ref cBadArgs)))
    (aBadHall : PySem.W.nsIn K mainGlobals "BadHall" = some (some (.ref cBadHall)))
    (aBadTurn : PySem.W.nsIn K mainGlobals "BadTurn" = some (some (.ref cBadTurn)))
    (aNoRow : PySem.W.nsIn K mainGlobals "NoRow" = some (some (.ref cNoRow)))
    (aMissing : PySem.W.nsIn K mainGlobals "Missing" = some (some (.ref cMissing)))
    (aBare : PySem.W.nsIn K mainGlobals "Bare" = some (some (.ref cBare)))
    (aSpent : PySem.W.nsIn K mainGlobals "Spent" = some (some (.ref cSpent)))
    (aBroken : PySem.W.nsIn K mainGlobals "Broken" = some (some (.ref cBroken)))
    (aStealError : PySem.W.nsIn K mainGlobals "StealError" = some (some (.ref cStealError)))
    (isBadText : PySem.W.isClsIn K cBadText = true)(tyBadText : PySem.W.typeIn K (.ref cBadText) = some (.type "type"))(suBadText : PySem.W.subIn K (.ref cMissing) (.ref cBadText) = some false)
    (isBadTree : PySem.W.isClsIn K cBadTree = true)(tyBadTree : PySem.W.typeIn K (.ref cBadTree) = some (.type "type"))(suBadTree : PySem.W.subIn K (.ref cMissing) (.ref cBadTree) = some false)
    (isBadArgs : PySem.W.isClsIn K cBadArgs = true)(tyBadArgs : PySem.W.typeIn K (.ref cBadArgs) = some (.type "type"))(suBadArgs : PySem.W.subIn K (.ref cMissing) (.ref cBadArgs) = some false)
    (isBadHall : PySem.W.isClsIn K cBadHall = true)(tyBadHall : PySem.W.typeIn K (.ref cBadHall) = some (.type "type"))(suBadHall : PySem.W.subIn K (.ref cMissing) (.ref cBadHall) = some false)
    (isBadTurn : PySem.W.isClsIn K cBadTurn = true)(tyBadTurn : PySem.W.typeIn K (.ref cBadTurn) = some (.type "type"))(suBadTurn : PySem.W.subIn K (.ref cMissing) (.ref cBadTurn) = some false)
    (isNoRow : PySem.W.isClsIn K cNoRow = true)(tyNoRow : PySem.W.typeIn K (.ref cNoRow) = some (.type "type"))(suNoRow : PySem.W.subIn K (.ref cMissing) (.ref cNoRow) = some false)
    (isMissing : PySem.W.isClsIn K cMissing = true)(tyMissing : PySem.W.typeIn K (.ref cMissing) = some (.type "type"))(suMissing : PySem.W.subIn K (.ref cMissing) (.ref cMissing) = some true)
    (isBare : PySem.W.isClsIn K cBare = true)(tyBare : PySem.W.typeIn K (.ref cBare) = some (.type "type"))(suBare : PySem.W.subIn K (.ref cMissing) (.ref cBare) = some false)
    (isSpent : PySem.W.isClsIn K cSpent = true)(tySpent : PySem.W.typeIn K (.ref cSpent) = some (.type "type"))(suSpent : PySem.W.subIn K (.ref cMissing) (.ref cSpent) = some false)
    (isBroken : PySem.W.isClsIn K cBroken = true)(tyBroken : PySem.W.typeIn K (.ref cBroken) = some (.type "type"))(suBroken : PySem.W.subIn K (.ref cMissing) (.ref cBroken) = some false)
    (isStealError : PySem.W.isClsIn K cStealError = true)(tyStealError : PySem.W.typeIn K (.ref cStealError) = some (.type "type"))(suStealError : PySem.W.subIn K (.ref cMissing) (.ref cStealError) = some false)
    (suValueError : PySem.W.subIn K (.ref cMissing) (.type "ValueError") = some false)
    (suLookupError : PySem.W.subIn K (.ref cMissing) (.type "LookupError") = some true)
    (suRuntimeError : PySem.W.subIn K (.ref cMissing) (.type "RuntimeError") = some false)
    (suArithmeticError : PySem.W.subIn K (.ref cMissing) (.type "ArithmeticError") = some false)
    (suKeyError : PySem.W.subIn K (.ref cMissing) (.type "KeyError") = some false)
    (suIndexError : PySem.W.subIn K (.ref cMissing) (.type "IndexError") = some false)
    (suZeroDivisionError : PySem.W.subIn K (.ref cMissing) (.type "ZeroDivisionError") = some false)
    {Mnm Mq : Str} {MN : Addr} {Mbs Mbm : List Value} {Msn : List Str} {Msub : List Value} {Mab : Bool} {Mcol : Option Bool} {Mdd : Option Addr} {Mk0 Mk1 Mk2 Mk3 Mk5 : Option Value} (Mcls : K.lookup cMissing = some (excClassObj Mnm Mq cMissing MN Mbs Mbm true Msn Msub Mab Mcol Mdd Mk0 Mk1 Mk2 Mk3 Mk5 "LookupError.__new__"))(Mbm0 : Mbm = [.type "LookupError", .type "Exception", .type "BaseException", .type "object"])
    (Mal : PySem.W.alongIn K "__init__" [.type "LookupError", .type "Exception", .type "BaseException", .type "object"] = some (some (.builtin "LookupError.__init__")))
    {fM : Addr} (Msa : PySem.W.findIn K (.ref cMissing) "__setattr__" = some (some (.builtin "object.__setattr__")))(MnoF : PySem.W.findIn K (.ref cMissing) "name" = some none)(MiC : PySem.W.findIn K (.ref cMissing) "__init__" = some (some (.ref fM)))(MtC : PySem.W.typeIn K (.ref fM) = some (.type "function"))(MkC : PySem.W.keepIn K (.ref cMissing) = true)(MexC : PySem.W.subIn K (.ref cMissing) (.type "BaseException") = some true)(Mop : PySem.W.nsIn K cStatics "thirdparty.any" = some none)(Mhd : PySem.W.hasDictIn K cMissing = true)(Mga : PySem.W.findIn K (.ref cMissing) "__getattribute__" = some (some (.builtin "BaseException.__getattribute__")))(Mgg : PySem.W.findIn K (.ref cMissing) "__getattr__" = some none)(Mca : PySem.W.findIn K (.ref cMissing) "__class__" = some (some (.builtin "object.__class__")))(cg : PySem.W.specialIn K (.builtin "object.__class__") "__get__" = some (some (.builtin "getset_descriptor.__get__")))(ct : PySem.W.takesIn K (.builtin "object.__class__") = some true)(Mob : PySem.W.mroIn K cMissing (.type "object") = some true)
    {Moc MkV Mdoc Mpm Mct : Value} {Mod_ Man : Option Addr} {Mcda Mcc : Addr} {Mosl : Array (Option Value)} {Mp1 Mp2 Mr0 Mr1 Mr2 Mr3 Mr4 Mr5 Mq1 Mq2 Mq3 Mq4 Mpa Mpf Mpv : Pos} {Ma : Str} {Mj1 : Nat} (Mfn : K.lookup fM = some ⟨Moc, Mod_, .func (PySem.W.ksFn "__init__" "Missing.__init__" (supA "name" Mp1 Mp2) (supB "name" [.Constant (.str Ma) Mj1 Mpa, .FormattedValue (.Name "name" Mpf) (-1) none Mpv] Mr0 Mr1 Mr2 Mr3 Mr4 Mr5 Mq1 Mq2 Mq3 Mq4) (supS "name") .none MkV Mdoc Mpm Man (.ref Mcda) Mct Mcc), Mosl⟩)(Mcd : PySem.W.codeIn K (.ref Mcda) "Missing.__init__" = true)(Mli : (Mr2.endLine == Mr4.line) = true)(MlA : Ma.length ≤ 1000)
    {Mccl : Value} {Mcdd : Option Addr} {Mvs : Array Value} {Mccs : Array (Option Value)} {Mfile : Str} {Mtf : Tok} (Mlc : K.lookup Mcda = some ⟨Mccl, Mcdd, .fields Mvs, Mccs⟩)(Mv2 : Mvs[2]? = some (.str Mfile Mtf))(Mfi : ((l.prog.main.file : Str) == Mfile) = true)
    {Mcl : Value} {Mcld : Option Addr} {Mcsl : Array (Option Value)} (Mce : K.lookup Mcc = some ⟨Mcl, Mcld, .cell (some (.ref cMissing)), Mcsl⟩)(Mtop : (l.prog.main.scope.names.lookup ("super" : Str)).isSome = false)
    : ∃ fd : FuncData, (∀ (s : Shared) (v : Value), BindsTo s fd ⟨[v], []⟩ [("_law_script", v)]) ∧ ∀ base : Heap, K.In base → base.Ns mainGlobals mg → FnG l.prog w K mg base 30 fa fd ["_law_script"] (spLaw K) := by
  have e := hfa.symm.trans (PySem.W.mg_of X G a_law)
  cases e
  have F_check_work := fun_mk (st := sChkWork) l_check_work c_check_work k_check_work
  have b_check_work := F_check_work.binds (ps := ["thing"]) fun _ _ _ _ _ _ us hl => match us, hl with | [_], _ => rfl
  have m_check_work := PySem.W.mg_of X G a_check_work
  have F_is_work := fun_mk (st := sIsWork) l_is_work c_is_work k_is_work
  have b_is_work := F_is_work.binds (ps := ["thing"]) fun _ _ _ _ _ _ us hl => match us, hl with | [_], _ => rfl
  have m_is_work := PySem.W.mg_of X G a_is_work
  have F_is_tuple_of := fun_mk (st := sTupOf) l_is_tuple_of c_is_tuple_of k_is_tuple_of
  have b_is_tuple_of := F_is_tuple_of.binds (ps := ["thing", "many"]) fun _ _ _ _ _ _ us hl => match us, hl with | [_, _], _ => rfl
  have m_is_tuple_of := PySem.W.mg_of X G a_is_tuple_of
  have F_is_whole := fun_mk (st := sWhole) l_is_whole c_is_whole k_is_whole
  have b_is_whole := F_is_whole.binds (ps := ["thing"]) fun _ _ _ _ _ _ us hl => match us, hl with | [_], _ => rfl
  have m_is_whole := PySem.W.mg_of X G a_is_whole
  have F_is_whole_within := fun_mk (st := sWithin) l_is_whole_within c_is_whole_within k_is_whole_within
  have b_is_whole_within := F_is_whole_within.binds (ps := ["thing", "most"]) fun _ _ _ _ _ _ us hl => match us, hl with | [_, _], _ => rfl
  have m_is_whole_within := PySem.W.mg_of X G a_is_whole_within
  have F_is_name := fun_mk (st := sIsName) l_is_name c_is_name k_is_name
  have b_is_name := F_is_name.binds (ps := ["thing"]) fun _ _ _ _ _ _ us hl => match us, hl with | [_], _ => rfl
  have m_is_name := PySem.W.mg_of X G a_is_name
  have F_are_names := fun_mk (st := sAreNames) l_are_names c_are_names k_are_names
  have b_are_names := F_are_names.binds (ps := ["thing"]) fun _ _ _ _ _ _ us hl => match us, hl with | [_], _ => rfl
  have m_are_names := PySem.W.mg_of X G a_are_names
  have m_is_expression := PySem.W.mg_of X G a_is_expression
  have F_is_leaf := fun_mk (st := sLeaf) l_is_leaf c_is_leaf k_is_leaf
  have b_is_leaf := F_is_leaf.binds (ps := ["pair"]) fun _ _ _ _ _ _ us hl => match us, hl with | [_], _ => rfl
  have m_is_leaf := PySem.W.mg_of X G a_is_leaf
  have F_are_expressions := fun_mk (st := sAreEx) l_are_expressions c_are_expressions k_are_expressions
  have b_are_expressions := F_are_expressions.binds (ps := ["thing"]) fun _ _ _ _ _ _ us hl => match us, hl with | [_], _ => rfl
  have m_are_expressions := PySem.W.mg_of X G a_are_expressions
  have F_rows_left := fun_mk (st := sRowsL) l_rows_left c_rows_left k_rows_left
  have b_rows_left := F_rows_left.binds (ps := ["thing", "ifs", "left"]) fun _ _ _ _ _ _ us hl => match us, hl with | [_, _, _], _ => rfl
  have m_rows_left := PySem.W.mg_of X G a_rows_left
  have F_row_left := fun_mk (st := sRowL) l_row_left c_row_left k_row_left
  have b_row_left := F_row_left.binds (ps := ["thing", "ifs", "left"]) fun _ _ _ _ _ _ us hl => match us, hl with | [_, _, _], _ => rfl
  have m_row_left := PySem.W.mg_of X G a_row_left
  have F_branches_left := fun_mk (st := sBranL) l_branches_left c_branches_left k_branches_left
  have b_branches_left := F_branches_left.binds (ps := ["row", "ifs", "left"]) fun _ _ _ _ _ _ us hl => match us, hl with | [_, _, _], _ => rfl
  have m_branches_left := PySem.W.mg_of X G a_branches_left
  have F_is_if_head := fun_mk (st := sIfHead) l_is_if_head c_is_if_head k_is_if_head
  have b_is_if_head := F_is_if_head.binds (ps := ["thing"]) fun _ _ _ _ _ _ us hl => match us, hl with | [_], _ => rfl
  have m_is_if_head := PySem.W.mg_of X G a_is_if_head
  have F_is_plain_row := fun_mk (st := sPlain) l_is_plain_row c_is_plain_row k_is_plain_row
  have b_is_plain_row := F_is_plain_row.binds (ps := ["thing"]) fun _ _ _ _ _ _ us hl => match us, hl with | [_], _ => rfl
  have m_is_plain_row := PySem.W.mg_of X G a_is_plain_row
  have F_check_works := fun_mk (st := sChkWorks) l_check_works c_check_works k_check_works
  have b_check_works := F_check_works.binds (ps := ["thing"]) fun _ _ _ _ _ _ us hl => match us, hl with | [_], _ => rfl
  have m_check_works := PySem.W.mg_of X G a_check_works
  have F_check_starts := fun_mk (st := sChkStarts) l_check_starts c_check_starts k_check_starts
  have b_check_starts := F_check_starts.binds (ps := ["works"]) fun _ _ _ _ _ _ us hl => match us, hl with | [_], _ => rfl
  have m_check_starts := PySem.W.mg_of X G a_check_starts
  have F_handed_counts := fun_mk (st := sHanded) l_handed_counts c_handed_counts k_handed_counts
  have b_handed_counts := F_handed_counts.binds (ps := ["works"]) fun _ _ _ _ _ _ us hl => match us, hl with | [_], _ => rfl
  have m_handed_counts := PySem.W.mg_of X G a_handed_counts
  have F_check_start := fun_mk (st := sChkStart) l_check_start c_check_start k_check_start
  have b_check_start := F_check_start.binds (ps := ["start", "handed"]) fun _ _ _ _ _ _ us hl => match us, hl with | [_, _], _ => rfl
  have m_check_start := PySem.W.mg_of X G a_check_start
  have F_starts_in := fun_mk (st := sStartsIn) l_starts_in c_starts_in k_starts_in
  have b_starts_in := F_starts_in.binds (ps := ["rows"]) fun _ _ _ _ _ _ us hl => match us, hl with | [_], _ => rfl
  have m_starts_in := PySem.W.mg_of X G a_starts_in
  have F___init__ := fun_mk (st := sBookInit) l___init__ c___init__ k___init__
  have b___init__ := F___init__.binds (ps := ["self", "works"]) fun _ _ _ _ _ _ us hl => match us, hl with | [_, _], _ => rfl
  have F_names := fun_mk (st := sBookNames) l_names c_names k_names
  have b_names := F_names.binds (ps := ["self"]) fun _ _ _ _ _ _ us hl => match us, hl with | [_], _ => rfl
  have F_tree := fun_mk (st := sBookTree) l_tree c_tree k_tree
  have b_tree := F_tree.binds (ps := ["self", "name"]) fun _ _ _ _ _ _ us hl => match us, hl with | [_, _], _ => rfl
  have F___len__ := fun_mk (st := sBookLen) l___len__ c___len__ k___len__
  have b___len__ := F___len__.binds (ps := ["self"]) fun _ _ _ _ _ _ us hl => match us, hl with | [_], _ => rfl
  have F___repr__ := fun_mk (st := sBookRepr) l___repr__ c___repr__ k___repr__
  have b___repr__ := F___repr__.binds (ps := ["self"]) fun _ _ _ _ _ _ us hl => match us, hl with | [_], _ => rfl
  have F_Lbag := fun_mk (st := sBag) l_Lbag c_Lbag k_Lbag
  have b_Lbag := F_Lbag.binds (ps := ["_law_script", "_law_k"]) fun _ _ _ _ _ _ us hl => match us, hl with | [_, _], _ => rfl
  have m_Lbag := PySem.W.mg_of X G a_Lbag
  have F_Ltake := fun_mk (st := sTake) l_Ltake c_Ltake k_Ltake
  have b_Ltake := F_Ltake.binds (ps := ["_law_bag_here", "_law_many"]) fun _ _ _ _ _ _ us hl => match us, hl with | [_, _], _ => rfl
  have m_Ltake := PySem.W.mg_of X G a_Ltake
  have F_Lkept := fun_mk (st := sKept) l_Lkept c_Lkept k_Lkept
  have b_Lkept := F_Lkept.binds (ps := []) fun _ _ _ _ _ _ us hl => match us, hl with | [], _ => rfl
  have m_Lkept := PySem.W.mg_of X G a_Lkept
  have F_Lnames := fun_mk (st := sNames) l_Lnames c_Lnames k_Lnames
  have b_Lnames := F_Lnames.binds (ps := ["_law_bag_here", "_law_many"]) fun _ _ _ _ _ _ us hl => match us, hl with | [_, _], _ => rfl
  have m_Lnames := PySem.W.mg_of X G a_Lnames
  have F_Lnumber := fun_mk (st := sNumber) l_Lnumber c_Lnumber k_Lnumber
  have b_Lnumber := F_Lnumber.binds (ps := ["_law_bag_here"]) fun _ _ _ _ _ _ us hl => match us, hl with | [_], _ => rfl
  have m_Lnumber := PySem.W.mg_of X G a_Lnumber
  have F_Ltree := fun_mk (st := sTree) l_Ltree c_Ltree k_Ltree
  have b_Ltree := F_Ltree.binds (ps := ["_law_bag_here", "_law_names_here", "_law_deep"]) fun _ _ _ _ _ _ us hl => match us, hl with | [_, _, _], _ => rfl
  have m_Ltree := PySem.W.mg_of X G a_Ltree
  have F_Lrow := fun_mk (st := sRow) l_Lrow c_Lrow k_Lrow
  have b_Lrow := F_Lrow.binds (ps := ["_law_bag_here", "_law_state", "_law_nested"]) fun _ _ _ _ _ _ us hl => match us, hl with | [_, _, _], _ => rfl
  have m_Lrow := PySem.W.mg_of X G a_Lrow
  have F_Lrows := fun_mk (st := sRows) l_Lrows c_Lrows k_Lrows
  have b_Lrows := F_Lrows.binds (ps := ["_law_bag_here", "_law_state", "_law_nested"]) fun _ _ _ _ _ _ us hl => match us, hl with | [_, _, _], _ => rfl
  have m_Lrows := PySem.W.mg_of X G a_Lrows
  have F_Lworks := fun_mk (st := sWorks) l_Lworks c_Lworks k_Lworks
  have b_Lworks := F_Lworks.binds (ps := ["_law_bag_here", "_law_most"]) fun _ _ _ _ _ _ us hl => match us, hl with | [_, _], _ => rfl
  have m_Lworks := PySem.W.mg_of X G a_Lworks
  have F_Lrefusal := fun_mk (st := sRefusal) l_Lrefusal c_Lrefusal k_Lrefusal
  have b_Lrefusal := F_Lrefusal.binds (ps := ["_law_e"]) fun _ _ _ _ _ _ us hl => match us, hl with | [_], _ => rfl
  have m_Lrefusal := PySem.W.mg_of X G a_Lrefusal
  have F_Lsaid := fun_mk (st := sSaid) l_Lsaid c_Lsaid k_Lsaid
  have b_Lsaid := F_Lsaid.binds (ps := ["_law_book", "_law_name"]) fun _ _ _ _ _ _ us hl => match us, hl with | [_, _], _ => rfl
  have m_Lsaid := PySem.W.mg_of X G a_Lsaid
  have F_Lis_right := fun_mk (st := sRight2) l_Lis_right c_Lis_right k_Lis_right
  have b_Lis_right := F_Lis_right.binds (ps := ["_law_book", "_law_works_here"]) fun _ _ _ _ _ _ us hl => match us, hl with | [_, _], _ => rfl
  have m_Lis_right := PySem.W.mg_of X G a_Lis_right
  have F_law := fun_mk (st := sLaw) l_law c_law k_law
  have m_law := PySem.W.mg_of X G a_law
  have T : Bi mg := ⟨PySem.W.mg_none_of X G z_len, PySem.W.mg_none_of X G z_abs, PySem.W.mg_none_of X G z_int, PySem.W.mg_none_of X G z_str, PySem.W.mg_none_of X G z_range, PySem.W.mg_none_of X G z_max, PySem.W.mg_none_of X G z_min, PySem.W.mg_none_of X G z_isinstance, PySem.W.mg_none_of X G z_all⟩
  have q_tuple := PySem.W.mg_none_of X G z_tuple
  have q_bool := PySem.W.mg_none_of X G z_bool
  have q_set := PySem.W.mg_none_of X G z_set
  have q_list := PySem.W.mg_none_of X G z_list
  have q_repr := PySem.W.mg_none_of X G z_repr
  have q_super := PySem.W.mg_none_of X G z_super
  have q_ValueError := PySem.W.mg_none_of X G z_ValueError
  have q_LookupError := PySem.W.mg_none_of X G z_LookupError
  have q_RuntimeError := PySem.W.mg_none_of X G z_RuntimeError
  have q_ArithmeticError := PySem.W.mg_none_of X G z_ArithmeticError
  have q_KeyError := PySem.W.mg_none_of X G z_KeyError
  have q_IndexError := PySem.W.mg_none_of X G z_IndexError
  have q_ZeroDivisionError := PySem.W.mg_none_of X G z_ZeroDivisionError
  refine ⟨PySem.W.fnOf "law" "law" (defArgs sLaw) (defBody sLaw) (defScope sLaw) .none kV_law dc_law pm_law an_law cd_law ct_law, fun s v => .of_eq rfl, fun base _ _ => ?_⟩
  have hW10 : iW.toArray.size ≤ sizeLine := by
    have := vW.length
    rw [List.size_toArray, ← this]
    decide
  have hS5 : iS.toArray.size ≤ sizeLine := by
    have := vS.length
    rw [List.size_toArray, ← this]
    decide
  have e30 : (1000000 : Int) ^ 5 - 1 = 999999999999999999999999999999 := by decide
  have GF : Gf K mg := ⟨⟨aW, PySem.W.mg_of X G gW, fun H => .inr ⟨_, iW.toArray, nW, lW, rfl, rfl, hW10, by rw [List.toList_toArray]; exact vW⟩⟩, ⟨aS, PySem.W.mg_of X G gS, fun H => .inr ⟨_, iS.toArray, nS, lS, rfl, rfl, hS5, by rw [List.toList_toArray]; exact vS⟩⟩, ⟨tLt, PySem.W.mg_of X G gLt⟩,
    ⟨_, PySem.W.mg_of X G g_MOST_WORKS⟩, ⟨_, PySem.W.mg_of X G g_MOST_ROWS⟩, ⟨_, PySem.W.mg_of X G g_MOST_NAMES⟩, ⟨_, PySem.W.mg_of X G g_MOST_EXPRESSIONS⟩, ⟨_, PySem.W.mg_of X G g_MOST_IFS⟩, ⟨_, PySem.W.mg_of X G g_MOST_LETTERS⟩, ⟨_, PySem.W.mg_of X G g_MOST_ROOM⟩, ⟨_, by rw [e30]; exact PySem.W.mg_of X G g_MOST_NUMBER⟩, ⟨_, PySem.W.mg_of X G g_NO_ROWS⟩⟩
  have BKT : BkT K mg C := ⟨⟨pg, hd, po, sa⟩, nWk, PySem.W.mg_of X G aC⟩
  have FE : FunD K "is_expression" "is_expression" (defArgs sIsEx) (defBody sIsEx) (defScope sIsEx) [.int 6] [] f_is_expression _ := ⟨⟨_, _, _, _, _, _, _, _, _, _, rfl, l_is_expression, c_is_expression, .inr ⟨by simp, TD, oTD, iTD, nTD, rfl, lTD, oTD0, vTD⟩, .inl rfl⟩, k_is_expression⟩
  obtain ⟨⟨dsE, vE, bE⟩, bE0⟩ := isEx_dflt FE
  -- the program's forms
  have TO : Fk l.prog w K mg base 1 "is_tuple_of" f_is_tuple_of _ ["thing", "many"] spTupOf := ⟨ok_tupOf F_is_tuple_of T q_tuple, m_is_tuple_of, k_is_tuple_of, b_is_tuple_of⟩
  have WH : Fk l.prog w K mg base 1 "is_whole" f_is_whole _ ["thing"] spWhole := ⟨ok_whole F_is_whole T q_bool, m_is_whole, k_is_whole, b_is_whole⟩
  have WI : Fk l.prog w K mg base 2 "is_whole_within" f_is_whole_within _ ["thing", "most"] spWithin := ⟨ok_within F_is_whole_within WH, m_is_whole_within, k_is_whole_within, b_is_whole_within⟩
  have IN : Fk l.prog w K mg base 1 "is_name" f_is_name _ ["thing"] spIsName := ⟨ok_isName F_is_name T GF, m_is_name, k_is_name, b_is_name⟩
  have LF : Fk l.prog w K mg base 3 "is_leaf" f_is_leaf _ ["pair"] spLeaf := ⟨ok_leaf F_is_leaf WI IN GF, m_is_leaf, k_is_leaf, b_is_leaf⟩
  have mE := PySem.W.mg_of X G a_is_expression
  have IE : Fk l.prog w K mg base 9 "is_expression" f_is_expression _ ["thing", "deepest"] (spIsEx 6) := ⟨isExs FE mE bE0 TO LF GF 6, mE, k_is_expression, bE0⟩
  have AN : Fk l.prog w K mg base 2 "are_names" f_are_names _ ["thing"] spAreNames := ⟨ok_areNames F_are_names IN T GF q_tuple q_set, m_are_names, k_are_names, b_are_names⟩
  have AE : Fk l.prog w K mg base 10 "are_expressions" f_are_expressions _ ["thing"] spAreEx := ⟨ok_areEx F_are_expressions IE vE bE T GF q_tuple, m_are_expressions, k_are_expressions, b_are_expressions⟩
  have IH : ∀ n, Fk l.prog w K mg base 10 "is_if_head" f_is_if_head _ ["thing"] (spIfHead n) := fun n => ⟨ok_ifHead F_is_if_head TO IE vE bE, m_is_if_head, k_is_if_head, b_is_if_head⟩
  have IP : ∀ n, Fk l.prog w K mg base 11 "is_plain_row" f_is_plain_row _ ["thing"] (spPlain n) := fun n => ⟨ok_plain F_is_plain_row TO IE vE bE IN AE, m_is_plain_row, k_is_plain_row, b_is_plain_row⟩
  have RLs : ∀ n, FnOk l.prog w K mg base CX0 (13 + 3 * n) f_rows_left (PySem.W.fnOf "rows_left" "rows_left" (defArgs sRowsL) (defBody sRowsL) (defScope sRowsL) .none kV_rows_left dc_rows_left pm_rows_left an_rows_left cd_rows_left ct_rows_left) ["thing", "ifs", "left"] (spRowsL n) := by
    intro n
    induction n with
    | zero => exact ok_rowsL (k := 12) F_rows_left ⟨ok_rowL (k := 11) (by decide) F_row_left (IH 0) (IP 0) (fun h => absurd h (by decide)) m_branches_left k_branches_left b_branches_left GF, m_row_left, k_row_left, b_row_left⟩ T GF q_tuple
    | succ n ih =>
      have br := ok_branL (k := 13 + 3 * n) F_branches_left ⟨ih, m_rows_left, k_rows_left, b_rows_left⟩ GF
      have rl := ok_rowL (n := n + 1) (k := 13 + 3 * n + 1) (by omega) F_row_left (IH (n + 1)) (IP (n + 1)) (fun _ => ⟨br, m_branches_left, k_branches_left, b_branches_left⟩) m_branches_left k_branches_left b_branches_left GF
      have rs := ok_rowsL F_rows_left ⟨rl, m_row_left, k_row_left, b_row_left⟩ T GF q_tuple
      rw [show 13 + 3 * (n + 1) = 13 + 3 * n + 1 + 1 + 1 by omega]
      exact rs
  have IW : Fk l.prog w K mg base 23 "is_work" f_is_work _ ["thing"] spIsWork := ⟨ok_isWork F_is_work TO IN AN WI ⟨RLs 3, m_rows_left, k_rows_left, b_rows_left⟩ GF, m_is_work, k_is_work, b_is_work⟩
  have CW : Fk l.prog w K mg base 24 "check_work" f_check_work _ ["thing"] spChkWork := ⟨ok_chkWork F_check_work IW, m_check_work, k_check_work, b_check_work⟩
  have CK : Fk l.prog w K mg base 25 "check_works" f_check_works _ ["thing"] spChkWorks := ⟨ok_chkWorks F_check_works CW T GF q_list, m_check_works, k_check_works, b_check_works⟩
  have SIs : ∀ n, FnOk l.prog w K mg base CX0 (n + 1) f_starts_in (PySem.W.fnOf "starts_in" "starts_in" (defArgs sStartsIn) (defBody sStartsIn) (defScope sStartsIn) .none kV_starts_in dc_starts_in pm_starts_in an_starts_in cd_starts_in ct_starts_in) ["rows"] (spStartsIn n) := by
    intro n
    induction n with
    | zero => exact ok_startsIn (n := 0) F_starts_in (fun h => absurd h (by decide)) m_starts_in b_starts_in
    | succ n ih => exact ok_startsIn (n := n + 1) F_starts_in (fun _ => ih) m_starts_in b_starts_in
  have CS : Fk l.prog w K mg base 5 "check_starts" f_check_starts _ ["works"] spChkStarts := ⟨ok_chkStarts F_check_starts ⟨SIs 3, m_starts_in, k_starts_in, b_starts_in⟩ ⟨ok_handed F_handed_counts T, m_handed_counts, k_handed_counts, b_handed_counts⟩ ⟨ok_chkStart F_check_start T, m_check_start, k_check_start, b_check_start⟩ T, m_check_starts, k_check_starts, b_check_starts⟩
  have GI := ok_bookInit F___init__ BKT CK CS q_tuple
  have TK : Fk l.prog w K mg base 1 "_law_take" f_Ltake _ ["_law_bag_here", "_law_many"] spTake := ⟨ok_take F_Ltake, m_Ltake, k_Ltake, b_Ltake⟩
  have KP : Fk l.prog w K mg base 1 "_law_kept" f_Lkept _ [] spKept := ⟨ok_kept F_Lkept, m_Lkept, k_Lkept, b_Lkept⟩
  have NB : Fk l.prog w K mg base 2 "_law_number" f_Lnumber _ ["_law_bag_here"] spNumber := ⟨ok_number F_Lnumber TK T, m_Lnumber, k_Lnumber, b_Lnumber⟩
  have NM : Fk l.prog w K mg base 2 "_law_names" f_Lnames _ ["_law_bag_here", "_law_many"] spNames := ⟨ok_names F_Lnames TK KP T, m_Lnames, k_Lnames, b_Lnames⟩
  have BG : Fk l.prog w K mg base 1 "_law_bag" f_Lbag _ ["_law_script", "_law_k"] (spBag K) := ⟨ok_bag F_Lbag T, m_Lbag, k_Lbag, b_Lbag⟩
  have TR : Fk l.prog w K mg base 8 "_law_tree" f_Ltree _ ["_law_bag_here", "_law_names_here", "_law_deep"] (spTrees 6) := ⟨trees_all F_Ltree m_Ltree b_Ltree TK NB T 6, m_Ltree, k_Ltree, b_Ltree⟩
  have RW16 : Fk l.prog w K mg base 16 "_law_rows" f_Lrows _ ["_law_bag_here", "_law_state", "_law_nested"] (spRows 3) := ⟨rowsAll F_Lrow m_Lrow b_Lrow F_Lrows m_Lrows b_Lrows TK TR T q_tuple 3, m_Lrows, k_Lrows, b_Lrows⟩
  have WS : Fk l.prog w K mg base 17 "_law_works" f_Lworks _ ["_law_bag_here", "_law_most"] spWorks := ⟨ok_works F_Lworks TK NM RW16 T q_tuple, m_Lworks, k_Lworks, b_Lworks⟩
  have SM : SupC l.prog K mg "Missing" "name" cMissing fM "LookupError" "LookupError.__new__" "LookupError.__init__" [.type "LookupError", .type "Exception", .type "BaseException", .type "object"] := by
    subst Mbm0
    exact ⟨PySem.W.mg_of X G aMissing, PySem.F.excBase_LookupError, PySem.W.kxs_LookupError, by decide +kernel, ⟨_, _, _, _, _, _, _, _, _, _, _, _, _, _, _, Mcls, fun _ => rfl, PySem.F.store_LookupError.passes, Mal, by decide +kernel⟩, Msa, MnoF, MiC, MtC, MkC, MexC, tyMissing, suLookupError, Mop, q_super, Mtop, by decide +kernel, by decide +kernel, by decide +kernel, by decide +kernel,
      ⟨_, _, _, _, _, _, _, _, _, _, _, _, _, _, _, _, _, _, _, _, _, _, _, _, _, Mfn, Mcd, Mli, fun _ _ => rfl, ⟨_, _, _, _, _, _, Mlc, Mv2, Mfi⟩, ⟨_, _, _, Mce⟩, Ma, Ma, Mj1, 0, Mpf, Mpv, Mpa, Mpa, MlA, MlA, .inl rfl⟩⟩
  have EC : ErC K cMissing := ⟨isMissing, Mga, Mgg, MexC, Mca, cg, ct, Mob⟩
  have EK : ErK K cMissing cBadText cBadTree cBadArgs cBadHall cBadTurn cNoRow cMissing cBare cSpent cBroken cStealError := ⟨kit_own isBadText tyBadText suBadText suMissing, kit_own isBadTree tyBadTree suBadTree suMissing, kit_own isBadArgs tyBadArgs suBadArgs suMissing, kit_own isBadHall tyBadHall suBadHall suMissing, kit_own isBadTurn tyBadTurn suBadTurn suMissing, kit_own isNoRow tyNoRow suNoRow suMissing, kit_self, kit_own isBare tyBare suBare suMissing, kit_own isSpent tySpent suSpent suMissing, kit_own isBroken tyBroken suBroken suMissing, kit_own isStealError tyStealError suStealError suMissing, kit_blt (by decide +kernel) suValueError, kit_blt (by decide +kernel) suLookupError, kit_blt (by decide +kernel) suRuntimeError, kit_blt (by decide +kernel) suArithmeticError, kit_blt (by decide +kernel) suKeyError, kit_blt (by decide +kernel) suIndexError, kit_blt (by decide +kernel) suZeroDivisionError⟩
  have GT := ok_bookTree (w := w) (base := base) F_tree BKT SM
  have RFs := ok_refusal (P := l.prog) (w := w) (base := base) F_Lrefusal EC EK T (PySem.W.mg_of X G aBadText) (PySem.W.mg_of X G aBadTree) (PySem.W.mg_of X G aBadArgs) (PySem.W.mg_of X G aBadHall) (PySem.W.mg_of X G aBadTurn) (PySem.W.mg_of X G aNoRow) (PySem.W.mg_of X G aMissing) (PySem.W.mg_of X G aBare) (PySem.W.mg_of X G aSpent) (PySem.W.mg_of X G aBroken) (PySem.W.mg_of X G aStealError) q_ValueError q_LookupError q_RuntimeError q_ArithmeticError q_KeyError q_IndexError q_ZeroDivisionError
  have SD : Fk l.prog w K mg base 4 "_law_said" f_Lsaid _ ["_law_book", "_law_name"] (spSaid C) := ⟨ok_said (fM := fM) F_Lsaid BKT GT ⟨a_tree, i_tree, k_tree⟩ b_tree RFs m_Lrefusal k_Lrefusal b_Lrefusal SM.gC (exm_self MexC isMissing tyMissing suMissing) ⟨Mga, Mgg, MexC, Mhd⟩ MnoF, m_Lsaid, k_Lsaid, b_Lsaid⟩
  have IR : FkG l.prog w K mg base 6 "_law_is_right" f_Lis_right _ ["_law_book", "_law_works_here"] (spRight2 C) := ⟨ok_right2 F_Lis_right BKT SD ⟨a_names, i_names, k_names⟩ (ok_bookNames F_names BKT) b_names hB0 a___len__ i___len__ (ok_bookLen F___len__ BKT T) b___len__ a___repr__ i___repr__ (ok_bookRepr F___repr__ BKT ⟨a_names, i_names, k_names⟩ (ok_bookNames F_names BKT) b_names) b___repr__ T q_list q_bool q_repr, m_Lis_right, k_Lis_right, b_Lis_right⟩
  exact ok_law F_law BG WS TK NM SD IR BKT ⟨mk, a___init__, i___init__, kc⟩ GI b___init__ T q_list
theorem walk {l : PySem.W.OpenLaw} {q : Program} {loose : List Str} {XP : (Str → Option Value) → Heap → Prop} {YP : World → Heap → Prop} {d : DefRec} {K : Params → PySem.W.Frag} (hn : l.most = some 63) (hdf : d.params.defaults = [])
    (hY : ∀ (w : World) (h : Heap), YP w h → (K w.params).In h)
    (F : ∀ (w : World) (mg : Str → Option Value) (fa : Addr) (h : Heap), (K w.params).In h → h.Ns mainGlobals mg → mg d.name = some (.ref fa) →
      ∃ fd : FuncData, (∀ (s : Shared) (u : Value), BindsTo s fd ⟨[u], []⟩ [("_law_script", u)]) ∧ ∀ base : Heap, (K w.params).In base → base.Ns mainGlobals mg → FnG l.prog w (K w.params) mg base 30 fa fd ["_law_script"] (spLaw (K w.params))) :
    PySem.W.WalkO q loose XP YP l.row.toRowW d [] (fun f vs => PySem.call f vs) :=
  walk_G (k := 30) (sp := spLaw) hn hdf ⟨rfl, by decide, by decide⟩ hY F fun K H a ns hl hS => ⟨a, ns, rfl, hS, hl, fun _ => rfl⟩
end SH
open PySem PySem.W PyProof.Rows
set_option maxRecDepth 100000 in
set_option maxHeartbeats 0 in
theorem PySem.Challenge.cw_stealhall_k02_books_made_holds : PySem.Challenge.rw_stealhall_k02_books_made.Holds := by
  w_on; o_law; k_head; (case hw => w_witness2)
  k_fill
  refine SH.walk (l := PySem.Challenge.rw_stealhall_k02_books_made) rfl rfl (fun w h Y => PySem.W.kIn_of Y) ?F
  case F =>
    intro w mg fa h KX G hmg
    refine' SH.all_mk KX G hmg ?aC ?a_check_work ?l_check_work ?c_check_work ?k_check_work ?a_is_work ?l_is_work ?c_is_work ?k_is_work ?a_is_tuple_of ?l_is_tuple_of ?c_is_tuple_of ?k_is_tuple_of ?a_is_whole ?l_is_whole ?c_is_whole ?k_is_whole ?a_is_whole_within ?l_is_whole_within ?c_is_whole_within ?k_is_whole_within ?a_is_name ?l_is_name ?c_is_name ?k_is_name ?a_are_names ?l_are_names ?c_are_names ?k_are_names ?a_is_expression ?l_is_expression ?c_is_expression ?k_is_expression ?a_is_leaf ?l_is_leaf ?c_is_leaf ?k_is_leaf ?a_are_expressions ?l_are_expressions ?c_are_expressions ?k_are_expressions ?a_rows_left ?l_rows_left ?c_rows_left ?k_rows_left ?a_row_left ?l_row_left ?c_row_left ?k_row_left ?a_branches_left ?l_branches_left ?c_branches_left ?k_branches_left ?a_is_if_head ?l_is_if_head ?c_is_if_head ?k_is_if_head ?a_is_plain_row ?l_is_plain_row ?c_is_plain_row ?k_is_plain_row ?a_check_works ?l_check_works ?c_check_works ?k_check_works ?a_check_starts ?l_check_starts ?c_check_starts ?k_check_starts ?a_handed_counts ?l_handed_counts ?c_handed_counts ?k_handed_counts ?a_check_start ?l_check_start ?c_check_start ?k_check_start ?a_starts_in ?l_starts_in ?c_starts_in ?k_starts_in ?a___init__ ?l___init__ ?c___init__ ?k___init__ ?i___init__ ?a_names ?l_names ?c_names ?k_names ?i_names ?a_tree ?l_tree ?c_tree ?k_tree ?i_tree ?a___len__ ?l___len__ ?c___len__ ?k___len__ ?i___len__ ?a___repr__ ?l___repr__ ?c___repr__ ?k___repr__ ?i___repr__ ?a_Lbag ?l_Lbag ?c_Lbag ?k_Lbag ?a_Ltake ?l_Ltake ?c_Ltake ?k_Ltake ?a_Lkept ?l_Lkept ?c_Lkept ?k_Lkept ?a_Lnames ?l_Lnames ?c_Lnames ?k_Lnames ?a_Lnumber ?l_Lnumber ?c_Lnumber ?k_Lnumber ?a_Ltree ?l_Ltree ?c_Ltree ?k_Ltree ?a_Lrow ?l_Lrow ?c_Lrow ?k_Lrow ?a_Lrows ?l_Lrows ?c_Lrows ?k_Lrows ?a_Lworks ?l_Lworks ?c_Lworks ?k_Lworks ?a_Lrefusal ?l_Lrefusal ?c_Lrefusal ?k_Lrefusal ?a_Lsaid ?l_Lsaid ?c_Lsaid ?k_Lsaid ?a_Lis_right ?l_Lis_right ?c_Lis_right ?k_Lis_right ?a_law ?l_law ?c_law ?k_law ?z_len ?z_abs ?z_int ?z_str ?z_range ?z_max ?z_min ?z_isinstance ?z_all ?z_tuple ?z_bool ?z_set ?z_list ?z_repr ?z_super ?z_ValueError ?z_LookupError ?z_RuntimeError ?z_ArithmeticError ?z_KeyError ?z_IndexError ?z_ZeroDivisionError ?gLt ?g_MOST_WORKS ?g_MOST_ROWS ?g_MOST_NAMES ?g_MOST_EXPRESSIONS ?g_MOST_IFS ?g_MOST_LETTERS ?g_MOST_ROOM ?g_MOST_NUMBER ?g_NO_ROWS ?gW ?lW ?vW ?gS ?lS ?vS ?lTD ?oTD0 ?vTD ?pg ?hd ?po ?sa ?mk ?kc ?nWk ?hB0 ?aBadText ?aBadTree ?aBadArgs ?aBadHall ?aBadTurn ?aNoRow ?aMissing ?aBare ?aSpent ?aBroken ?aStealError ?isBadText ?tyBadText ?suBadText ?isBadTree ?tyBadTree ?suBadTree ?isBadArgs ?tyBadArgs ?suBadArgs ?isBadHall ?tyBadHall ?suBadHall ?isBadTurn ?tyBadTurn ?suBadTurn ?isNoRow ?tyNoRow ?suNoRow ?isMissing ?tyMissing ?suMissing ?isBare ?tyBare ?suBare ?isSpent ?tySpent ?suSpent ?isBroken ?tyBroken ?suBroken ?isStealError ?tyStealError ?suStealError ?suValueError ?suLookupError ?suRuntimeError ?suArithmeticError ?suKeyError ?suIndexError ?suZeroDivisionError ?Mcls ?Mbm0 ?Mal ?Msa ?MnoF ?MiC ?MtC ?MkC ?MexC ?Mop ?Mhd ?Mga ?Mgg ?Mca ?cg ?ct ?Mob ?Mfn ?Mcd ?Mli ?MlA ?Mlc ?Mv2 ?Mfi ?Mce ?Mtop
    (case aC => k_is)
    (case a_check_work => k_is)
    (case l_check_work => k_is)
    (case c_check_work => k_is)
    (case k_check_work => k_is)
    (case a_is_work => k_is)
    (case l_is_work => k_is)
    (case c_is_work => k_is)
    (case k_is_work => k_is)
    (case a_is_tuple_of => k_is)
    (case l_is_tuple_of => k_is)
    (case c_is_tuple_of => k_is)
    (case k_is_tuple_of => k_is)
    (case a_is_whole => k_is)
    (case l_is_whole => k_is)
    (case c_is_whole => k_is)
    (case k_is_whole => k_is)
    (case a_is_whole_within => k_is)
    (case l_is_whole_within => k_is)
    (case c_is_whole_within => k_is)
    (case k_is_whole_within => k_is)
    (case a_is_name => k_is)
    (case l_is_name => k_is)
    (case c_is_name => k_is)
    (case k_is_name => k_is)
    (case a_are_names => k_is)
    (case l_are_names => k_is)
    (case c_are_names => k_is)
    (case k_are_names => k_is)
    (case a_is_expression => k_is)
    (case l_is_expression => k_is)
    (case c_is_expression => k_is)
    (case k_is_expression => k_is)
    (case a_is_leaf => k_is)
    (case l_is_leaf => k_is)
    (case c_is_leaf => k_is)
    (case k_is_leaf => k_is)
    (case a_are_expressions => k_is)
    (case l_are_expressions => k_is)
    (case c_are_expressions => k_is)
    (case k_are_expressions => k_is)
    (case a_rows_left => k_is)
    (case l_rows_left => k_is)
    (case c_rows_left => k_is)
    (case k_rows_left => k_is)
    (case a_row_left => k_is)
    (case l_row_left => k_is)
    (case c_row_left => k_is)
    (case k_row_left => k_is)
    (case a_branches_left => k_is)
    (case l_branches_left => k_is)
    (case c_branches_left => k_is)
    (case k_branches_left => k_is)
    (case a_is_if_head => k_is)
    (case l_is_if_head => k_is)
    (case c_is_if_head => k_is)
    (case k_is_if_head => k_is)
    (case a_is_plain_row => k_is)
    (case l_is_plain_row => k_is)
    (case c_is_plain_row => k_is)
    (case k_is_plain_row => k_is)
    (case a_check_works => k_is)
    (case l_check_works => k_is)
    (case c_check_works => k_is)
    (case k_check_works => k_is)
    (case a_check_starts => k_is)
    (case l_check_starts => k_is)
    (case c_check_starts => k_is)
    (case k_check_starts => k_is)
    (case a_handed_counts => k_is)
    (case l_handed_counts => k_is)
    (case c_handed_counts => k_is)
    (case k_handed_counts => k_is)
    (case a_check_start => k_is)
    (case l_check_start => k_is)
    (case c_check_start => k_is)
    (case k_check_start => k_is)
    (case a_starts_in => k_is)
    (case l_starts_in => k_is)
    (case c_starts_in => k_is)
    (case k_starts_in => k_is)
    (case a___init__ => k_is)
    (case l___init__ => k_is)
    (case c___init__ => k_is)
    (case k___init__ => k_is)
    (case i___init__ => k_is)
    (case a_names => k_is)
    (case l_names => k_is)
    (case c_names => k_is)
    (case k_names => k_is)
    (case i_names => k_is)
    (case a_tree => k_is)
    (case l_tree => k_is)
    (case c_tree => k_is)
    (case k_tree => k_is)
    (case i_tree => k_is)
    (case a___len__ => k_is)
    (case l___len__ => k_is)
    (case c___len__ => k_is)
    (case k___len__ => k_is)
    (case i___len__ => k_is)
    (case a___repr__ => k_is)
    (case l___repr__ => k_is)
    (case c___repr__ => k_is)
    (case k___repr__ => k_is)
    (case i___repr__ => k_is)
    (case a_Lbag => k_is)
    (case l_Lbag => k_is)
    (case c_Lbag => k_is)
    (case k_Lbag => k_is)
    (case a_Ltake => k_is)
    (case l_Ltake => k_is)
    (case c_Ltake => k_is)
    (case k_Ltake => k_is)
    (case a_Lkept => k_is)
    (case l_Lkept => k_is)
    (case c_Lkept => k_is)
    (case k_Lkept => k_is)
    (case a_Lnames => k_is)
    (case l_Lnames => k_is)
    (case c_Lnames => k_is)
    (case k_Lnames => k_is)
    (case a_Lnumber => k_is)
    (case l_Lnumber => k_is)
    (case c_Lnumber => k_is)
    (case k_Lnumber => k_is)
    (case a_Ltree => k_is)
    (case l_Ltree => k_is)
    (case c_Ltree => k_is)
    (case k_Ltree => k_is)
    (case a_Lrow => k_is)
    (case l_Lrow => k_is)
    (case c_Lrow => k_is)
    (case k_Lrow => k_is)
    (case a_Lrows => k_is)
    (case l_Lrows => k_is)
    (case c_Lrows => k_is)
    (case k_Lrows => k_is)
    (case a_Lworks => k_is)
    (case l_Lworks => k_is)
    (case c_Lworks => k_is)
    (case k_Lworks => k_is)
    (case a_Lrefusal => k_is)
    (case l_Lrefusal => k_is)
    (case c_Lrefusal => k_is)
    (case k_Lrefusal => k_is)
    (case a_Lsaid => k_is)
    (case l_Lsaid => k_is)
    (case c_Lsaid => k_is)
    (case k_Lsaid => k_is)
    (case a_Lis_right => k_is)
    (case l_Lis_right => k_is)
    (case c_Lis_right => k_is)
    (case k_Lis_right => k_is)
    (case a_law => k_is)
    (case l_law => k_is)
    (case c_law => k_is)
    (case k_law => k_is)
    (case z_len => k_is)
    (case z_abs => k_is)
    (case z_int => k_is)
    (case z_str => k_is)
    (case z_range => k_is)
    (case z_max => k_is)
    (case z_min => k_is)
    (case z_isinstance => k_is)
    (case z_all => k_is)
    (case z_tuple => k_is)
    (case z_bool => k_is)
    (case z_set => k_is)
    (case z_list => k_is)
    (case z_repr => k_is)
    (case z_super => k_is)
    (case z_ValueError => k_is)
    (case z_LookupError => k_is)
    (case z_RuntimeError => k_is)
    (case z_ArithmeticError => k_is)
    (case z_KeyError => k_is)
    (case z_IndexError => k_is)
    (case z_ZeroDivisionError => k_is)
    (case gLt => k_is)
    (case g_MOST_WORKS => k_is)
    (case g_MOST_ROWS => k_is)
    (case g_MOST_NAMES => k_is)
    (case g_MOST_EXPRESSIONS => k_is)
    (case g_MOST_IFS => k_is)
    (case g_MOST_LETTERS => k_is)
    (case g_MOST_ROOM => k_is)
    (case g_MOST_NUMBER => k_is)
    (case g_NO_ROWS => k_is)
    (case gW => k_is)
    (case lW => k_is)
    (case vW => (repeat (first | exact Paired.nil | refine Paired.cons ⟨_, rfl⟩ ?_)))
    (case gS => k_is)
    (case lS => k_is)
    (case vS => (repeat (first | exact Paired.nil | refine Paired.cons ⟨_, rfl⟩ ?_)))
    (case lTD => k_is)
    (case oTD0 => (first | rfl | k_is))
    (case vTD => (repeat (first | exact Paired.nil | refine Paired.cons ⟨_, rfl⟩ ?_)))
    (case pg => k_is)
    (case hd => k_is)
    (case po => k_is)
    (case sa => k_is)
    (case mk => k_is)
    (case kc => k_is)
    (case nWk => k_is)
    (case hB0 => k_is)
    (case aBadText => k_is)
    (case aBadTree => k_is)
    (case aBadArgs => k_is)
    (case aBadHall => k_is)
    (case aBadTurn => k_is)
    (case aNoRow => k_is)
    (case aMissing => k_is)
    (case aBare => k_is)
    (case aSpent => k_is)
    (case aBroken => k_is)
    (case aStealError => k_is)
    (case isBadText => k_is)
    (case tyBadText => k_is)
    (case suBadText => k_is)
    (case isBadTree => k_is)
    (case tyBadTree => k_is)
    (case suBadTree => k_is)
    (case isBadArgs => k_is)
    (case tyBadArgs => k_is)
    (case suBadArgs => k_is)
    (case isBadHall => k_is)
    (case tyBadHall => k_is)
    (case suBadHall => k_is)
    (case isBadTurn => k_is)
    (case tyBadTurn => k_is)
    (case suBadTurn => k_is)
    (case isNoRow => k_is)
    (case tyNoRow => k_is)
    (case suNoRow => k_is)
    (case isMissing => k_is)
    (case tyMissing => k_is)
    (case suMissing => k_is)
    (case isBare => k_is)
    (case tyBare => k_is)
    (case suBare => k_is)
    (case isSpent => k_is)
    (case tySpent => k_is)
    (case suSpent => k_is)
    (case isBroken => k_is)
    (case tyBroken => k_is)
    (case suBroken => k_is)
    (case isStealError => k_is)
    (case tyStealError => k_is)
    (case suStealError => k_is)
    (case suValueError => k_is)
    (case suLookupError => k_is)
    (case suRuntimeError => k_is)
    (case suArithmeticError => k_is)
    (case suKeyError => k_is)
    (case suIndexError => k_is)
    (case suZeroDivisionError => k_is)
    (case Mcls => k_is)
    (case Mbm0 => rfl)
    (case Mal => (first | kernel_rfl | rfl | decide +kernel))
    (case Msa => k_is)
    (case MnoF => k_is)
    (case MiC => k_is)
    (case MtC => k_is)
    (case MkC => k_is)
    (case MexC => k_is)
    (case Mop => k_is)
    (case Mhd => k_is)
    (case Mga => k_is)
    (case Mgg => k_is)
    (case Mca => k_is)
    (case cg => k_is)
    (case ct => k_is)
    (case Mob => k_is)
    (case Mfn => k_is)
    (case Mcd => k_is)
    (case Mli => (first | rfl | decide))
    (case MlA => decide +kernel)
    (case Mlc => k_is)
    (case Mv2 => rfl)
    (case Mfi => (first | decide +kernel | rfl))
    (case Mce => k_is)
    (case Mtop => (first | decide +kernel | rfl))
