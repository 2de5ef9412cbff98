import PyProof.Rows.All
import Wide.All
import OpenK.AllK
import Wide.FinOn
import HandS.ForMost
import HandS.More
import HandS.FStr
import HandS.IsInst
import HandS.Strs
import HandS.SetBool
import HandS.SetKeys
import HandS.DictComp
import KE.KCallOwn
import HandS.OwnEq
import PyProof.ReprRoads
import PyProof.StrLawsRepr
import PyProof.FitsInt
import HandS.Codes
import HandS.Walk
import HandS.RaiseMore
import HandS.Defaults
import HandS.TupAny
import HandS.DictSub
import HandS.NoneIn
import PySem.Challenge.RW_stealhall_k27_code_laid_out
set_option Elab.async false
set_option linter.all false
set_option maxRecDepth 100000
/-! Expressions: what they are, their text, how they lie in the heap. -/
namespace SH
open PySem L2
inductive Sg where
  | add | sub | mul | lt | eq
def Sg.txt : Sg → Str
  | .add => "+"
  | .sub => "-"
  | .mul => "*"
  | .lt => "<"
  | .eq => "=="
def Sg.lv : Sg → Int
  | .add => 2
  | .sub => 2
  | .mul => 3
  | .lt => 1
  | .eq => 1
inductive Ex where
  | num (n : Int)
  | nam (s : Str)
  | op (g : Sg) (l r : Ex)
def Ex.lv : Ex → Int
  | .num _ => 4
  | .nam _ => 4
  | .op g _ _ => g.lv
def Ex.lw : Ex → Int
  | .num _ => 9
  | .nam _ => 9
  | .op g _ _ => g.lv
def br (b : Bool) (t : Str) : Str := if b = true then ("(" : Str) ++ t ++ (")" : Str) else t
def lB (g : Sg) (l : Ex) : Bool := decide (l.lv < g.lv) || decide (l.lv = 1)
def rB (g : Sg) (r : Ex) : Bool := decide (r.lv ≤ g.lv)
def Ex.txt : Ex → Str
  | .num n => (toString n : String)
  | .nam s => s
  | .op g l r => br (lB g l) l.txt ++ (" " : Str) ++ g.txt ++ (" " : Str) ++ br (rB g r) r.txt
/-- at most n deep, its parts within bounds -/
def Ex.ok : Nat → Ex → Prop
  | 0, _ => False
  | _ + 1, .num n => n.natAbs.log2 < 1920
  | _ + 1, .nam s => s.length ≤ 2000
  | n + 1, .op _ l r => Ex.ok n l ∧ Ex.ok n r
def lenB : Nat → Nat
  | 0 => 2000
  | n + 1 => 2 * lenB n + 2000
theorem app_len (a b : Str) : (a ++ b).length = a.length + b.length := by
  show (a.cps ++ b.cps).size = _
  rw [Array.size_append]
  all_goals rfl
theorem emp_app (a : Str) : Str.empty ++ a = a := by
  show (⟨#[] ++ a.cps⟩ : Str) = a
  rw [Array.empty_append]
theorem Sg.len (g : Sg) : g.txt.length ≤ 2 := by cases g <;> decide +kernel
theorem br_len (b : Bool) (t : Str) : (br b t).length ≤ t.length + 2 := by
  unfold br
  split
  · rw [app_len, app_len]
    have h1 : ("(" : Str).length = 1 := by decide +kernel
    have h2 : (")" : Str).length = 1 := by decide +kernel
    omega
  · omega
theorem Ex.len : ∀ (n : Nat) (e : Ex), Ex.ok n e → e.txt.length ≤ lenB n
  | 0, _, h => h.elim
  | n + 1, .num i, h => by
    have q := PyProof.Rows.int_text_len_1921 (i := i) h
    show (PySem.Str.ofString (toString i)).length ≤ 2 * lenB n + 2000
    omega
  | n + 1, .nam s, h => by
    show s.length ≤ 2 * lenB n + 2000
    have : s.length ≤ 2000 := h
    omega
  | n + 1, .op g l r, h => by
    have h1 := Ex.len n l h.1
    have h2 := Ex.len n r h.2
    have q1 := br_len (lB g l) l.txt
    have q2 := br_len (rB g r) r.txt
    have q3 := g.len
    have hb : (" " : Str).length = 1 := by decide +kernel
    show (br (lB g l) l.txt ++ (" " : Str) ++ g.txt ++ (" " : Str) ++ br (rB g r) r.txt).length ≤ 2 * lenB n + 2000
    rw [app_len, app_len, app_len, app_len]
    omega
theorem Ex.ok_up : ∀ {n m : Nat} {e : Ex}, n ≤ m → Ex.ok n e → Ex.ok m e
  | 0, _, _, _, h => h.elim
  | n + 1, m + 1, .num _, _, h => h
  | n + 1, m + 1, .nam _, _, h => h
  | n + 1, m + 1, .op _ _ _, hm, h => ⟨Ex.ok_up (by omega) h.1, Ex.ok_up (by omega) h.2⟩
/-- what lies at v is the expression -/
def TrIn (H : Hp) : Ex → V → Prop
  | .num n, v => ∃ a, v = .ref a ∧ H a = some (.tup [.str "number", .int n])
  | .nam s, v => ∃ a, v = .ref a ∧ H a = some (.tup [.str "name", .str s])
  | .op g l r, v => ∃ a x y, v = .ref a ∧ H a = some (.tup [.str g.txt, x, y]) ∧ TrIn H l x ∧ TrIn H r y
/-- all but what stands at b stays -/
def But (b : Addr) (H H' : Hp) : Prop := ∀ a o, a ≠ b → H a = some o → H' a = some o
theorem But.of {b : Addr} {H H' : Hp} (h : Same H H') : But b H H' := fun a o _ e => h a o e
theorem But.trans {b : Addr} {H H1 H2 : Hp} (h : But b H H1) (k : But b H1 H2) : But b H H2 := fun a o n e => k a o n (h a o n e)
theorem TrIn.same {H H' : Hp} (h : Same H H') : ∀ {e : Ex} {v : V}, TrIn H e v → TrIn H' e v
  | .num n, v, ⟨a, e, k⟩ => ⟨a, e, h _ _ k⟩
  | .nam n, v, ⟨a, e, k⟩ => ⟨a, e, h _ _ k⟩
  | .op g l r, v, ⟨a, x, y, e, k, p, q⟩ => ⟨a, x, y, e, h _ _ k, TrIn.same h p, TrIn.same h q⟩
theorem lst_ne {H : Hp} {a b : Addr} {xs ys : List V} (h : H a = some (.tup xs)) (k : H b = some (.lst ys)) : a ≠ b := fun e => by
  rw [e, k] at h
  cases h
theorem TrIn.but {H H' : Hp} {b : Addr} {ys : List V} (hb : H b = some (.lst ys)) (h : But b H H') : ∀ {e : Ex} {v : V}, TrIn H e v → TrIn H' e v
  | .num n, v, ⟨a, e, k⟩ => ⟨a, e, h _ _ (lst_ne k hb) k⟩
  | .nam n, v, ⟨a, e, k⟩ => ⟨a, e, h _ _ (lst_ne k hb) k⟩
  | .op g l r, v, ⟨a, x, y, e, k, p, q⟩ => ⟨a, x, y, e, h _ _ (lst_ne k hb) k, TrIn.but hb h p, TrIn.but hb h q⟩
theorem same_new {H : Hp} {p : Addr} (h : H p = none) (o : HO) : Same H (upd H p o) := fun b u q => by
  rw [upd_ne (ne_of_none q h)]
  exact q
def Ex.head : Ex → Str
  | .num _ => "number"
  | .nam _ => "name"
  | .op g _ _ => g.txt
theorem TrIn.tup {H : Hp} : ∀ {e : Ex} {v : V}, TrIn H e v → ∃ a xs, v = .ref a ∧ H a = some (.tup xs) ∧ xs[0]? = some (.str e.head)
  | .num n, v, ⟨a, e, k⟩ => ⟨a, _, e, k, rfl⟩
  | .nam n, v, ⟨a, e, k⟩ => ⟨a, _, e, k, rfl⟩
  | .op g l r, v, ⟨a, x, y, e, k, p, q⟩ => ⟨a, _, e, k, rfl⟩
theorem Sg.ne_number (g : Sg) : g.txt ≠ ("number" : Str) := by cases g <;> decide +kernel
theorem Sg.ne_name (g : Sg) : g.txt ≠ ("name" : Str) := by cases g <;> decide +kernel
/-! ### d.get(k, x) of a dict of the module, keys texts -/
section
variable {X : Cx} {o e f : Expr} {apos cpos : Pos} {td ty tx : TE}
def KGet (K : PySem.W.Frag) (w : World) (a : Addr) (x : Str) (r : Option V) : Prop :=
  ∃ es n ou, K.lookup a = some ⟨.type "dict", none, .dict es n, #[]⟩ ∧ PySem.W.KeysLit w.params es.toList ∧ (a == sysModules) = false ∧ PySem.W.nsIn K a x = some ou ∧
    ((∃ v u, r = some v ∧ ou = some u ∧ RelV v u) ∨ (r = none ∧ ou = none))
def tKGet2 (K : PySem.W.Frag) (w : World) (td ty tx : TE) : TE := fun σ H Q => td σ H fun x H1 => ∃ a es n, x = .ref a ∧ K.lookup a = some ⟨.type "dict", none, .dict es n, #[]⟩ ∧ PySem.W.KeysLit w.params es.toList ∧
  ty σ H1 fun y H2 => tx σ H2 fun z H3 => ∃ k r, y = .str k ∧ KGet K w a k r ∧ Q (r.getD z) H3
theorem pe_kget2 (ho : PE X o td) (he : PE X e ty) (hf : PE X f tx) (m : M2 X o "get" apos e f cpos) : PE X (.Call (.Attribute o "get" apos) [e, f] [] cpos) (tKGet2 X.K X.w td ty tx) := by
  refine ⟨fun pins s σ H Q I h => ?_⟩
  refine wpAny_Call_method m.base m.few m.line PySem.F.plainAttrs_dict PySem.F.slot_dict_get PySem.F.type_dict_get (thn (ho.run pins s σ H _ I h) fun u s1 ⟨x, H1, I1, rx, a, es, n, ex, hl, hk, q1⟩ => ?_)
  subst ex
  obtain rfl : u = Value.ref a := rx
  have hm := PySem.W.mapOf_K (prog := X.prog) (w := X.w) I1.kIn hl hk
  refine ⟨hm.typeIs, fun b q => ?_, ?_⟩
  · cases q
    exact ⟨_, I1.kIn _ _ hl, rfl⟩
  rw [m.trees]
  refine Calls.callWith_builtin rfl (Calls.evalArgs_plain (Calls.spliced_cons (thn (he.run pins s1 σ H1 _ I1 q1) fun iv s2 ⟨y, H2, I2, ry, q2⟩ =>
    Calls.spliced_cons (thn (hf.run pins s2 σ H2 _ I2 q2) fun fv s3 ⟨z, H3, I3, rz, k, r, ey, g, q3⟩ => Calls.spliced_nil ?_))))
  subst ey
  obtain ⟨t, rfl⟩ := (show ∃ t, iv = Value.str k t from ry)
  obtain ⟨es', n', ou, hl', hk', low, hn, hr⟩ := g
  have hm3 := PySem.W.mapOf_K (prog := X.prog) (w := X.w) I3.kIn hl' hk'
  refine call_meetsIn PySem.F.slot_dict_get hm3.typeIs PySem.F.entry_dict_get (PySem.F.args_dict_get_3 _ _ _) (meets_dict_get_default (strKind X.prog X.w) a (strKind_is X.prog X.w k t) low fv) ⟨_, hm3, ?_⟩
  rw [PySem.W.find_K hl' hn]
  rcases hr with ⟨v, u, rfl, rfl, rv⟩ | ⟨rfl, rfl⟩
  · exact ⟨v, H3, I3.tok _, rv, q3⟩
  · exact ⟨z, H3, I3.tok _, rz, q3⟩
end
/-! ### rules within a comprehension: the written part by its name -/
section
variable {X : Cx}
theorem ix_tupK (K : PySem.W.Frag) (h : X.K = K := by rfl) : IxR X (rIxT K) := h ▸ ix_tup
theorem ix_listK (K : PySem.W.Frag) (h : X.K = K := by rfl) : IxR X (rIxL K) := h ▸ ix_list
theorem call_len_seqK (K : PySem.W.Frag) (h : X.K = K := by rfl) : CallR X (.builtin "len") (fun xs H Q => ∃ p ys, xs = [V.ref p] ∧ (SqL K H p ys ∨ SqT K H p ys) ∧ Q (.int (ys.length : Nat)) H) := h ▸ call_len_seq
theorem op_in_seqK (K : PySem.W.Frag) (h : X.K = K := by rfl) : OpR X (compareOp .In) (rIn K false) := h ▸ op_in_seq
theorem op_notIn_seqK (K : PySem.W.Frag) (h : X.K = K := by rfl) : OpR X (compareOp .NotIn) (rIn K true) := h ▸ op_notIn_seq
end
end SH

set_option Elab.async false
set_option linter.all false
set_option maxRecDepth 100000
/-! Sets of unlike texts: set(tuple), {.. for .. in ..}, and how many stand in one. -/
namespace SHSet
open PySem PySem.Spec PyProof.Rows
/-- a set in which just these unlike texts stand -/
def TxtSet (prog : Program) (w : World) (h : Heap) (D : Addr) (xs : List Str) : Prop := h.SetOf (strKind prog w) D (fun y => decide (y ∈ xs)) xs.length
section
variable {prog : Program} {w : World} {A : Around} {D : Addr}
theorem TxtSet.keep {h k : Heap} {xs : List Str} (q : TxtSet prog w h D xs) (m : ∀ o, h.get? D = some o → k.get? D = some o) : TxtSet prog w k D xs := by
  obtain ⟨o, es, ep, tb, ho, rest⟩ := q
  exact ⟨o, es, ep, tb, m _ ho, rest⟩
/-- one more text, if it isn't there -/
def addT (xs : List Str) (y : Str) : List Str := if y ∈ xs then xs else xs ++ [y]
/-- each once -/
def dd (xs : List Str) : List Str := xs.foldl addT []
theorem dd_snoc (xs : List Str) (y : Str) : dd (xs ++ [y]) = addT (dd xs) y := by
  unfold dd
  rw [List.foldl_append]
  rfl
theorem addT_len (xs : List Str) (y : Str) : (addT xs y).length ≤ xs.length + 1 := by
  unfold addT
  split
  · omega
  · rw [List.length_append, List.length_singleton]
    omega
theorem dd_len (n : Nat) : ∀ xs : List Str, xs.length = n → (dd xs).length ≤ n := by
  induction n with
  | zero =>
    intro xs h
    rw [List.eq_nil_of_length_eq_zero h]
    exact Nat.le_refl _
  | succ n ih =>
    intro xs h
    have hne : xs ≠ [] := fun z => by rw [z] at h; cases h
    have e := (List.dropLast_concat_getLast hne).symm
    have hl : xs.dropLast.length = n := by rw [List.length_dropLast, h]; rfl
    have := ih xs.dropLast hl
    have a := addT_len (dd xs.dropLast) (xs.getLast hne)
    rw [e, dd_snoc]
    omega
theorem dd_fold : ∀ (xs acc : List Str), (acc ++ xs).Nodup → xs.foldl addT acc = acc ++ xs
  | [], acc, _ => (List.append_nil acc).symm
  | x :: r, acc, h => by
    have hx : x ∉ acc := fun m => by
      have := List.nodup_append.mp h
      exact this.2.2 x m x List.mem_cons_self rfl
    show r.foldl addT (addT acc x) = acc ++ x :: r
    have e : addT acc x = acc ++ [x] := by unfold addT; rw [if_neg hx]
    have e2 : acc ++ x :: r = (acc ++ [x]) ++ r := by rw [List.append_assoc]; rfl
    rw [e, e2]
    rw [e2] at h
    exact dd_fold r (acc ++ [x]) h
theorem dd_nd {xs : List Str} (h : xs.Nodup) : dd xs = xs := dd_fold xs [] h
theorem TxtSet.one {xs : List Str} {y : Str} {t : Tok} {s : Shared} {E : Value → Shared → Prop} {Q : Bool → Shared → Prop} (q : TxtSet prog w s.heap D xs) (few : xs.length + 1 < scanBound)
    (h : ∀ k, s.heap.SameBut D k → TxtSet prog w k D (addT xs y) → ∀ r, Q r { s with heap := k, toks := s.toks + 1 }) : wpAny (model prog w) A (setAdd D (.str y t)) Q E s := by
  unfold setAdd
  refine wpAny_holding (wpAny_bind ((strKind prog w).pyHash (k := y) (strKind_is prog w y t) ?_))
  refine wpAny_setAddHashed_of (knd := strKind prog w) (s := { s with toks := s.toks + 1 }) (strKind_is prog w y t) rfl q few fun k sb st => h k sb ?_ _
  unfold addT
  by_cases hy : y ∈ xs
  · rw [if_pos hy]
    refine SetOf_congr st (fun z => ?_) (by rw [decide_eq_true hy]; rfl)
    by_cases e : z = y
    · subst e; simp [hy]
    · simp [e]
  · rw [if_neg hy]
    refine SetOf_congr st (fun z => ?_) ?_
    · simp [List.mem_append]
    · rw [if_neg (by rw [decide_eq_false hy]; exact Bool.false_ne_true), List.length_append]
      rfl
end
section
variable {prog : Program} {w : World} {A : Around} {R : Result → Shared → Prop} {J D : Addr} {ft wt : List Addr} {Gs : Array GenState → Array GenState → Prop} {n : Nat} {Pi : Nat → Value → Prop} {Sat : Nat → Shared → Prop}
theorem texts_loop (W : WalksS prog w A.in1 J ft wt Gs n Pi Sat) (out : D ∉ ft) {xs : List Str} (len : xs.length = n) (few : n + 1 < scanBound) (val : ∀ i v, Pi i v → ∃ t, v = .str (xs.getD i Str.empty) t) :
    ∀ (m i : Nat) (s : Shared), i + m = n → Sat i s → TxtSet prog w s.heap D (dd (xs.take i)) → (∀ z, Moved (D :: wt) Gs s z → TxtSet prog w z.heap D (dd xs) → R (.ok (.ret .none)) z) →
      codeAny (model prog w) A (.builtin "set.update.loop" ⟨[.ref D, .ref J], []⟩) R s := by
  have outW : D ∉ wt := fun q => out (W.sub _ q)
  have wide : ∀ b ∈ wt, b ∈ D :: wt := fun b q => List.mem_cons_of_mem _ q
  intro m
  induction m with
  | zero =>
    intro i s him st q fin
    have ei : xs.take i = xs := List.take_of_length_le (by omega)
    rw [ei] at q
    refine codeAny_builtin PyProof.Rows.F.entry_set_update_loop (by
      rw [Around.under_plainId PyProof.Rows.F.plain_set_update_loop _]
      refine (show wpAny _ A.in1 (pyNext (.ref J) >>= _) _ _ s from wpAny_bind (W.done s _ _ (by rw [show n = i by omega]; exact st) fun z mv => ?_))
      exact (show wpAny _ A.in1 (ret Value.none) _ _ z from wpAny_pure (fin z (mv.mono wide) (q.keep fun o ho => mv.heap D o outW ho))))
  | succ m ih =>
    intro i s him st q fin
    have lt : i < xs.length := by omega
    refine codeAny_builtin PyProof.Rows.F.entry_set_update_loop (by
      rw [Around.under_plainId PyProof.Rows.F.plain_set_update_loop _]
      refine (show wpAny _ A.in1 (pyNext (.ref J) >>= _) _ _ s from wpAny_bind (W.item i s _ _ (by omega) st fun v z pv stz mv => ?_))
      obtain ⟨t, rfl⟩ := val i v pv
      have qz : TxtSet prog w z.heap D (dd (xs.take i)) := q.keep fun o ho => mv.heap D o outW ho
      have here : xs.getD i Str.empty = xs[i] := by rw [List.getD_eq_getElem?_getD, List.getElem?_eq_getElem lt]; rfl
      have more : xs.take (i + 1) = xs.take i ++ [xs.getD i Str.empty] := by rw [here, List.take_add_one, List.getElem?_eq_getElem lt]; rfl
      refine (show wpAny _ A.in1 (holding [Value.str (xs.getD i Str.empty) t] (setAdd D (.str (xs.getD i Str.empty) t)) >>= _) _ _ z from wpAny_bind (wpAny_holding ?_))
      refine qz.one (by have := dd_len i (xs.take i) (by rw [List.length_take]; omega); omega) fun k sb qk r => ?_
      rw [← dd_snoc, ← more] at qk
      refine wpAny_pure ⟨plainId_quiet PyProof.Rows.F.plain_set_update_loop _, ih (i + 1) _ (by omega) (W.frame _ z _ _ stz (Nat.le_succ _) fun b hb o e => ?_) qk fun u mu qu => ?_⟩
      · exact (sb.2 b (fun q : b = D => out (q ▸ hb))).trans e
      · refine fin u (Moved.trans W.gtrans ((mv.mono wide).then_heap (Nat.le_succ _) fun b o hb e => ?_) mu) qu
        exact (sb.2 b (fun q : b = D => hb (by rw [q]; exact List.mem_cons_self))).trans e)
end
section
variable {prog : Program} {w : World} {A : Around} {E : Value → Shared → Prop} {s : Shared}
/-- an empty set, just made -/
abbrev bareSet (led : Bool) : Obj := { cls := .type "set", dict := none, data := .set #[] 0 (.fresh 0 0 led) }
theorem txt0 {h : Heap} {D : Addr} {led : Bool} (g : h.get? D = some (bareSet led)) : TxtSet prog w h D [] :=
  SetOf_congr ((setObjOf_fresh (knd := strKind prog w) led).setOf g (by decide)) (fun _ => rfl) rfl
/-- set.__init__ over a tuple of texts -/
theorem init_texts {D l : Addr} {items : Array Value} {xs : List Str} {led : Bool} {Q : Value → Shared → Prop} (quiet : A.handled = none) (hl : s.heap.IsTuple l items) (hx : StrsAre items.toList xs) (few : xs.length + 1 < scanBound) (hD : D < s.heap.objs.size) (hDl : l < D) (g : s.heap.get? D = some (bareSet led))
    (h : ∀ (k : Heap) (tk : Nat), TxtSet prog w k D (dd xs) → (∀ b o, b < D → s.heap.get? b = some o → k.get? b = some o) → Q .none { s with heap := k, toks := tk }) :
    codeAny (model prog w) A (.call (.builtin "set.__init__") ⟨[.ref D, .ref l], []⟩) (wants Q E) s := by
  have ty : s.TypeIs (.ref D) "set" := ⟨_, g, rfl⟩
  refine codeAny_call_builtin PySem.F.called_set.init.plain PySem.F.entry_set_init (check_set_init_1 ty ?_)
  obtain ⟨⟨c1, c2, c3, c4⟩, at_l, k1, k2, k3⟩ := hl
  simp only at k1 k3
  subst k1
  subst k3
  have f1 := PySem.F.sub_tuple_set
  have f2 := PySem.F.sub_tuple_frozenset
  have f3 : (Value.type "tuple" == Value.type "dict") = false := by decide
  have whole : s.heap.IsTuple l items := ⟨_, at_l, rfl, k2, rfl⟩
  unfold Builtin.«set.__init__» noKeywords Builtin.Frozenset.updateFrom
  generalize hit : pyIter = PI
  wp_walk
  subst hit
  refine wpAny_pyIter_tuple whole (wpAny_bind (wpAny_runValue ?_))
  have calm : A.in1.in1.handled = none := by simp [quiet]
  have lJ : l ≠ s.heap.objs.size := Nat.ne_of_lt (Nat.lt_trans hDl hD)
  have hsz : xs.length = items.size := by rw [← StrsAre.len_eq hx, Array.length_toList]
  refine texts_loop (prog := prog) (w := w) (A := A.in1) ((Walks.tuple calm _ l lJ items).toS) (D := D) ?_ hsz (by omega) (fun i v hv => SS.strs_at hx i v (by rw [Array.getElem?_toList]; exact hv)) items.size 0 _ (by omega) ?_ ?_ fun z mv qz => ?_
  · simp only [List.mem_cons, List.mem_singleton, List.not_mem_nil, or_false, not_or]
    exact ⟨Nat.ne_of_lt hD, Nat.ne_of_gt hDl⟩
  · exact ⟨⟨_, Heap.get?_push_size _ rfl, rfl, rfl⟩, whole.push _⟩
  · exact txt0 (led := led) (Heap.get?_push_of_some _ g)
  · obtain ⟨hz, gz, dz, tz, oz⟩ := z
    obtain rfl : gz = s.gens := mv.gens
    obtain rfl : dz = s.drawn := mv.drawn
    obtain rfl : oz = s.os := mv.os
    refine wpAny_pure (wpAny_pure (h hz tz qz fun b o hb e => mv.heap b o ?_ (Heap.get?_push_of_some _ e)))
    simp only [List.mem_cons, List.mem_singleton, List.not_mem_nil, or_false, not_or]
    exact ⟨Nat.ne_of_lt hb, Nat.ne_of_lt (Nat.lt_trans hb hD)⟩
/-- set(tuple of unlike texts) -/
theorem call_texts {l : Addr} {items : Array Value} {xs : List Str} {Q : Value → Shared → Prop} (quiet : A.handled = none) (hl : s.heap.IsTuple l items) (hx : StrsAre items.toList xs) (few : xs.length + 1 < scanBound)
    (h : ∀ (k : Heap) (tk : Nat), TxtSet prog w k s.heap.objs.size (dd xs) → (∀ b o, b < s.heap.objs.size → s.heap.get? b = some o → k.get? b = some o) → Q (.ref s.heap.objs.size) { s with heap := k, toks := tk }) :
    wpAny (model prog w) A (call (.type "set") [.ref l]) Q E s := by
  obtain ⟨c, tl, f1⟩ := PySem.F.called_set.mro
  have f2 := PySem.F.called_set.made
  have f3 := PySem.F.called_set.sub
  refine wpAny_call (codeAny_of_tree (show wpAny _ _ (callAny (.type "set") _) _ _ _ from wpAny_pure ⟨Code.quiet_builtin _ (by decide +kernel), codeAny_builtin PySem.F.entry_type_call ?_⟩))
  rw [Around.under_plain (weight_type_call_type "set" [.ref l] []) rfl]
  have f4 := PySem.F.called_set.notType
  have f5 := PySem.F.called_set.canCreate
  have f6 := PySem.F.typeCall_set_1 (.ref l)
  repeat (any_goals (first | assumption | wp_step))
  refine codeAny_mono (code_set_new_1 (.ref l) (E := E) (Q₁ := fun o z => ∃ led : Bool, o = .ref s.heap.objs.size ∧ z = { s with heap := s.heap.push (bareSet led) }) fun led => ⟨led, rfl, rfl⟩) fun r z hr => ?_
  cases r with
  | error e => exact hr
  | ok fl =>
    cases fl with
    | ret obj =>
      obtain ⟨led, rfl, rfl⟩ := hr
      have g : (s.heap.push (bareSet led)).get? s.heap.objs.size = some (bareSet led) := Heap.get?_push_size _ rfl
      have f7 : Shared.TypeIs { s with heap := s.heap.push (bareSet led) } (.ref s.heap.objs.size) "set" := ⟨_, g, rfl⟩
      have f8 := PySem.F.called_set.init.lookup
      have f9 := PySem.F.called_set.init.bind (.ref s.heap.objs.size)
      repeat (any_goals (first | assumption | wp_step))
      have hlt : l < s.heap.objs.size := by
        obtain ⟨o, ho, _⟩ := hl
        exact Heap.lt_size ho
      refine codeAny_mono (init_texts (prog := prog) (w := w) (E := E) (Q := fun r z => r = .none ∧ ∃ k tk, z = { s with heap := k, toks := tk } ∧ TxtSet prog w k s.heap.objs.size (dd xs) ∧ ∀ b o, b < s.heap.objs.size → s.heap.get? b = some o → k.get? b = some o) (led := led) (by simp [quiet]) (hl.push _) hx few (by rw [Heap.size_push]; exact Nat.lt_succ_self _) hlt g fun k tk q kp => ⟨rfl, k, tk, rfl, q, fun b o hb e => kp b o hb (Heap.get?_push_of_some _ e)⟩) fun r z hr => ?_
      cases r with
      | error e => exact hr
      | ok fl =>
        cases fl with
        | ret r =>
          obtain ⟨rfl, k, tk, rfl, q, kp⟩ := hr
          repeat (any_goals (first | assumption | wp_step))
          exact h k tk q kp
        | _ => exact hr.elim
    | _ => exact hr.elim
end
end SHSet
namespace SH
open PySem PySem.Spec PyProof.Rows L2 SHSet
/-- len(set(t)), t a tuple of texts -/
def tLenTxt (K : PySem.W.Frag) (ta : TE) : TE := fun σ H Q => ta σ H fun x H1 => ∃ (l : Addr) (xs : List Str), x = .ref l ∧ SqT K H1 l (xs.map V.str) ∧ xs.length ≤ 1000 ∧ Q (.int ((dd xs).length : Nat)) H1
section
variable {X : Cx}
theorem pe_lenTxt {a : Expr} {ta : TE} {p p2 q pos : Pos} (hg : Gl X "len") (ml : X.mg "len" = none) (hg2 : Gl X "set") (ms : X.mg "set" = none) (ha : PE X a ta) (quiet : X.calm = true := by rfl)
    (plain : starEach [a] X.env = (false, eval a X.env) :: starEach [] X.env := by rfl) : PE X (.Call (.Name "len" p) [.Call (.Name "set" p2) [a] [] q] [] pos) (tLenTxt X.K ta) := by
  refine ⟨fun pins s σ H Q I h => Call_ (ld_blt I hg ml boot_len (callWith_builtin1 (args_cons (Call_ (ld_blt I hg2 ms boot_set ?_)) rfl) rfl rfl))⟩
  refine callWith_type1 (args_cons (thn (ha.run pins s σ H _ I h) fun v z ⟨x, H1, J, rx, l, xs, ex, tq, few, fin⟩ => args_nil ?_) plain) plain rfl
  subst ex
  cases rx
  obtain ⟨its, rv, tup, _⟩ := J.tuple tq
  have small : (dd xs).length ≤ 1000 := Nat.le_trans (dd_len xs.length xs rfl) few
  refine call_texts (J.ok.hd quiet) tup (xs := xs) (by simpa using strsAre_of rv) (by unfold scanBound; omega) fun k tk qs kp => args_nil ?_
  obtain ⟨o, es, ep, tb, h1, h2, h3, _, _, _, h4, h5⟩ := qs
  have J2 : Inv X pins σ H1 { z with heap := k, toks := tk } := J.kept fun b o e => kp b o (Heap.lt_size e) e
  exact call_len_set h1 h2 h3 h4 (by rw [h5]; omega) ⟨.int ((dd xs).length : Nat), H1, J2.tok _, ⟨_, by rw [h5]⟩, fin⟩
end
end SH

set_option Elab.async false
set_option linter.all false
set_option maxRecDepth 100000
set_option maxHeartbeats 2000000
/-! {e for x in xs}, e a text. -/
namespace SH
open PySem PySem.Spec PyProof.Rows L2 SHSet
/-- the set of texts at D -/
def TxtO (P : Program) (w : World) (D : Addr) (xs : List Str) : HO := .ext fun h => TxtSet P w h D xs
theorem txtO_ok {P : Program} {w : World} {H : Hp} {h : Heap} {D : Addr} {xs : List Str} (q : TxtSet P w h D xs) : ObjOk P w H h D (TxtO P w D xs) := by
  have q' := q
  obtain ⟨o, _, _, _, ho, _⟩ := q'
  exact ⟨q, ⟨o, ho⟩, fun h1 h2 p k => TxtSet.keep p k⟩
section
variable {X : Cx}
theorem add_txt {pins : List (Addr × Obj)} {σ : L2.St} {H : Hp} {s : Shared} {E : Value → Shared → Prop} {D : Addr} {xs : List Str} {z : Str} {t : Tok} {Q : Value → Shared → Prop} (I : Inv X pins σ H s) (hD : H D = some (TxtO X.prog X.w D xs)) (few : xs.length + 1 < scanBound)
    (h : ∀ s', Inv X pins σ (upd H D (TxtO X.prog X.w D (addT xs z))) s' → Q .none s') : wpAny (model X.prog X.w) X.A (call (.builtin "set.add") [.ref D, .str z t]) Q E s := by
  have q : TxtSet X.prog X.w s.heap D xs := (I.hok D _ hD).1
  refine call_set_add (knd := strKind X.prog X.w) (k := z) (strKind_is X.prog X.w z t) rfl q few fun k sb st => ?_
  have nw : TxtSet X.prog X.w k D (addT xs z) := by
    unfold addT
    by_cases hy : z ∈ xs
    · rw [if_pos hy]
      refine SetOf_congr st (fun y => ?_) (by rw [decide_eq_true hy]; rfl)
      by_cases e : y = z
      · subst e; simp [hy]
      · simp [e]
    · rw [if_neg hy]
      refine SetOf_congr st (fun y => ?_) ?_
      · simp [List.mem_append]
      · rw [if_neg (by rw [decide_eq_false hy]; exact Bool.false_ne_true), List.length_append]
        rfl
  have ex : ∃ u, k.get? D = some u := by
    have n2 := nw
    obtain ⟨o, _, _, _, ho, _⟩ := n2
    exact ⟨o, ho⟩
  exact h _ (I.write (e := D) (t' := s.toks + 1) (by rw [hD]; trivial) (.inl rfl) (fun b u hb hu => (sb.2 b hb).trans hu) ex (txtO_ok nw))
/-- the readings of {e for x in xs}: D the new set -/
def tTxc (P : Program) (w : World) (wi : TI) (g : TG) (te : TE) (vs : List Nat) : TE := fun σ H Q => wi σ H fun J H1 => ∀ D, H1 D = none → ∃ W : Nat → Nat → Hp → Prop, (∃ m, W 0 m (upd H1 D (TxtO P w D []))) ∧ ∀ i m H, W i m H →
  (J.stop i H ∧ Q (.ref D) H) ∨ (J.go i H ∧ ∃ Nx : Hp → Prop, (∀ H', Nx H' → ∃ m', m' < m ∧ W (i + 1) m' H') ∧ ∀ x H', J.yld i H x H' → g x (wipe σ vs) H' fun σ2 H2 => wipe σ2 vs = wipe σ vs ∧
    te σ2 H2 fun y H4 => ∃ (z : Str) (xs : List Str), y = .str z ∧ H4 D = some (TxtO P w D xs) ∧ xs.length + 1 < scanBound ∧ Nx (upd H4 D (TxtO P w D (addT xs z))))
abbrev freshSet (w : World) : Obj := { cls := .type "set", dict := none, data := .set #[] 0 (.fresh 0 0 (!w.params.followText "set-order")) }
theorem pe_txc {elt tg iter : Expr} {scope : Scope} {own : List (PySem.Str × Nat)} {pos : Pos} {wi : TI} {g : TG} {te : TE} (quiet : X.calm = true) (ndN : X.N.Nodup) (hi : PI X tg iter wi) (ok : BlkOk X.N X.env.scope scope own)
    (hg : ∀ (s : Shared) (H : Hp) (C : Addr) (cl : List (PySem.Str × Addr)) (fp : List Addr), PG (X.blk s H scope (compEnvC scope cl C X.env) fp) tg g)
    (he : ∀ (s : Shared) (H : Hp) (C : Addr) (cl : List (PySem.Str × Addr)) (fp : List Addr), PE (X.blk s H scope (compEnvC scope cl C X.env) fp) elt te) (fold : ∀ x, foldedSetIterable iter X.env x = pure x := by intro _; rfl) :
    PE X (.SetComp elt [⟨tg, iter, [], 0⟩] scope pos) (tTxc X.prog X.w wi g te (own.map (·.2))) := by
  refine ⟨fun pins s σ H Q I h => ?_⟩
  rw [PpSet.eval_SetComp]
  have fr : ∀ y ∈ scope.names, y.2 = .free → ∃ c, X.env.cells.lookup y.1 = some c := fun y hy e => (ok.free y hy e).elim (fun k => I.ok.has _ (.inl k)) fun k => I.ok.has _ (.inr k)
  refine wpAny_comprehension_free (use := none) rfl fold (closure_ok fr) ok.kind (fun y hy e => by rw [ok.uniq y hy, e]) (thn (hi.run pins s σ H _ I h) fun _ s1 hx => thn hx fun _ s2 ⟨it, fp, tn, J, H2, e, I2, T, st2, f2, q⟩ => ?_)
  subst e
  refine PpSet.newSet_ok (newEnv_comp ?_)
  generalize hD : s2.heap.objs.size = D
  obtain ⟨W, ⟨m0, w0⟩, turn⟩ := q D (I2.hok.fresh (Nat.le_of_eq hD))
  generalize ez : ({ s2 with heap := s2.heap.push (freshSet X.w) } : Shared) = sz
  have I3 : Inv X pins σ (upd H2 D (TxtO X.prog X.w D [])) sz := by
    subst ez
    refine I2.laid (t' := s2.toks) (fun b o e => Heap.get?_push_of_some _ e) (Nat.le_of_eq hD) ?_
    subst hD
    exact txtO_ok (txt0 (Heap.get?_push_size _ rfl))
  have hh : sz.heap = s2.heap.push (freshSet X.w) := by subst ez; rfl
  have below : ∀ b ∈ fp, b < s2.heap.objs.size := fun b hb => (T.obj _ _ st2 b hb).elim fun o ho => Heap.lt_size ho.1
  have f3 : ∀ b ∈ fp, FpOk X pins (upd H2 D (TxtO X.prog X.w D [])) b ∧ b < sz.heap.objs.size := fun b hb => by
    refine ⟨⟨?_, (f2 b hb).2⟩, by rw [hh, Heap.size_push]; exact Nat.lt_succ_of_lt (below b hb)⟩
    rw [upd_ne (fun z => Nat.lt_irrefl _ (hD ▸ z ▸ below b hb))]
    exact (f2 b hb).1
  have st3 : tn 0 sz.heap := T.keep _ _ _ st2 fun b _ o e => by rw [hh]; exact Heap.get?_push_of_some _ e
  have I4 := block_start I3 ok ndN f3
  have pg := hg sz (upd H2 D (TxtO X.prog X.w D [])) sz.heap.objs.size (cellsFrom (sz.heap.objs.size + 1) scope.names (cloFrom X.env.cells scope.names [])) fp
  have pe := he sz (upd H2 D (TxtO X.prog X.w D [])) sz.heap.objs.size (cellsFrom (sz.heap.objs.size + 1) scope.names (cloFrom X.env.cells scope.names [])) fp
  show codeAny _ _ (.compStart (.SetComp elt [⟨tg, iter, [], 0⟩] scope pos) 0 (.ref it) (.ref D) (compEnvC scope (cellsFrom (sz.heap.objs.size + 1) scope.names (cloFrom X.env.cells scope.names [])) sz.heap.objs.size X.env)) (compPost (model X.prog X.w) X.A X.xe none _ (.ref D) sz.heap.objs.size) { sz with heap := pushCells (sz.heap.push { cls := .type "dict", data := .dict #[] }) scope.names }
  have nfp : ∀ b ∈ fp, (upd H2 D (TxtO X.prog X.w D [])) b = none := fun b hb => (f3 b hb).1.1
  generalize ec : compEnvC scope (cellsFrom (sz.heap.objs.size + 1) scope.names (cloFrom X.env.cells scope.names [])) sz.heap.objs.size X.env = ce at I4 pg pe ⊢
  have cl : ce.locals = sz.heap.objs.size := by subst ec; rfl
  generalize upd H2 D (TxtO X.prog X.w D []) = H3 at I3 I4 pg pe w0 nfp f3
  generalize e4 : ({ sz with heap := pushCells (sz.heap.push { cls := .type "dict", data := .dict #[] }) scope.names } : Shared) = s4 at I4 ⊢
  have st4 : tn 0 s4.heap := T.keep _ _ _ st3 fun b _ o e => by rw [← e4]; exact pushCells_keeps _ _ _ _ (Heap.get?_push_of_some _ e)
  have stat : ∀ {σ' : L2.St} {H' : Hp} {s' : Shared}, Inv (X.blk sz H3 scope ce fp) [] σ' H' s' → (∀ b ∈ fp, H' b = none) → ∀ b ∈ fp, FpOk (X.blk sz H3 scope ce fp) [] H' b := fun {_ _ _} K hn b hb =>
    ⟨hn b hb, (K.ok.exf b hb).1, K.ok.exfs b hb, .inl hb, fun x c e => (K.ok.exf b hb).2 x c e, fun p hp => absurd (show p ∈ ([] : List (Addr × Obj)) ++ [] from hp) (by simp)⟩
  have loop : codeAny (model X.prog X.w) X.A (.compLoop (.SetComp elt [⟨tg, iter, [], 0⟩] scope pos) 0 (.ref it) (.ref D) ce) (compPost (model X.prog X.w) X.A X.xe none (EP X pins σ Q) (.ref D) sz.heap.objs.size) s4 := by
    refine PpSet.compLoopS_any (fun n z => ∃ i H', Inv (X.blk sz H3 scope ce fp) [] (wipe σ (own.map (·.2))) H' z ∧ tn i z.heap ∧ (∀ b ∈ fp, H' b = none) ∧ W i n H') ?_ m0 ⟨0, H3, I4, st4, nfp, w0⟩
    rintro n s5 ⟨i, H5, I5, st5, n5, w5⟩
    rcases turn i n H5 w5 with ⟨stop, qq⟩ | ⟨go, Nx, hNx, step⟩
    · refine thnF (T.done (X.blk sz H3 scope ce fp) rfl rfl rfl quiet i [] s5 _ H5 (fun _ _ => False) I5 (stat I5 n5) st5 stop) fun r s6 ⟨hr, I6⟩ => ?_
      subst hr
      have I7 : Inv X pins σ H5 s6 := I3.call' (ch := fp) I6.os I6.base I6.hok I6.bare fun b hb => have u := (f3 b hb).1.2; ⟨u.2.2.1, u.1, u.2.2.2.1, u.2.2.2.2⟩
      have nC : H5 sz.heap.objs.size = none := cl ▸ (show H5 ce.locals = none from I6.free)
      obtain ⟨m, hn, _⟩ := I6.loc
      have hn' : s6.heap.Ns sz.heap.objs.size m := cl ▸ (show s6.heap.Ns ce.locals m from hn)
      obtain ⟨u0, u1, u2, u3, u4, u5⟩ := I3.fpOk (Nat.le_refl _) nC
      refine ⟨m, hn', fun k sb => ⟨.ref D, H5, I7.turned (t' := s6.toks) (fun b o hb e => (sb.2 b hb).trans e) u0 u1 u3 u4 u5, rfl, qq⟩⟩
    · refine thnF (T.item (X.blk sz H3 scope ce fp) rfl rfl rfl quiet i [] s5 _ H5 (fun _ _ => False) I5 (stat I5 n5) st5 go) fun r s6 ⟨u, hr, h6⟩ => ?_
      subst hr
      refine thnF h6 fun _ s7 ⟨x, H7, I7, r7, y7, st7, n7⟩ => ?_
      refine thnF (pg.run _ s7 _ H7 x u _ (I7.pinned (stat I7 n7) (T.obj _ _ st7)) r7 (step x H7 y7)) fun _ s8 ⟨σ8, H8, I8, hw8, q8⟩ => ?_
      refine thnF ((pts_nil (X := X.blk sz H3 scope ce fp)).run _ s8 σ8 H8 _ I8 (show tYes σ8 H8 (fun b K => b = true ∧ te σ8 K _) from ⟨rfl, q8⟩)) fun b s9 ⟨H9, I9, eb, q9⟩ => ?_
      subst eb
      simp only [if_true]
      refine thnF (pe.run _ s9 σ8 H9 _ I9 q9) fun z s10 ⟨yv, H10, I10, r10, zt, xs, ey, hD10, few, nx⟩ => ?_
      subst ey
      obtain ⟨tk, rfl⟩ := (show ∃ tk, z = Value.str zt tk from r10)
      refine add_txt (X := X.blk sz H3 scope ce fp) I10 hD10 few fun s11 I11 => ?_
      obtain ⟨m', hm, w'⟩ := hNx _ nx
      have pin : ∀ b ∈ fp, ∀ o, s7.heap.get? b = some o → s11.heap.get? b = some o ∧ (upd H10 D (TxtO X.prog X.w D (addT xs zt))) b = none := fun b hb o e =>
        have v := I11.pin (b, o) (List.mem_append_right _ (List.mem_append_right _ (mem_pinsAt hb e)))
        ⟨v.1, v.2.1⟩
      refine ⟨m', hm, i + 1, _, (I11.unpinned (pins := [])).weak (by rw [← hw8, wipe_length]) (fun j v e => ?_), T.keep _ _ _ st7 fun b hb o e => (pin b hb o e).1, fun b hb => ?_, w'⟩
      · rw [← hw8] at e
        exact (wipe_some e).1
      · exact (T.obj _ _ st7 b hb).elim fun o ho => (pin b hb o ho.1).2
  exact PpSet.codeAny_compStart_set loop (T.self X.A 0 _ _ _ st4 loop)
/-- len of such a set -/
theorem call_lenTxt : CallR X (.builtin "len") (fun xs H Q => ∃ (D : Addr) (l : List Str), xs = [.ref D] ∧ H D = some (TxtO X.prog X.w D l) ∧ l.length ≤ 1000 ∧ Q (.int (l.length : Nat)) H) := by
  intro pins s σ H xs us Q I r h
  obtain ⟨D, l, rfl, hD, few, q⟩ := h
  obtain ⟨u, rfl, ru⟩ := vals1 r
  cases ru
  obtain ⟨o, es, ep, tb, h1, h2, h3, _, _, _, h4, h5⟩ := (I.hok D _ hD).1
  exact call_len_set h1 h2 h3 h4 (by rw [h5]; omega) ⟨.int (l.length : Nat), H, I.tok _, ⟨_, by rw [h5]⟩, q⟩
end
end SH

set_option Elab.async false
set_option linter.all false
set_option maxRecDepth 100000
namespace SH
open PySem PySem.Spec PyProof.Rows L2
section
variable {X : Cx}
/-- y = {k: v for x in xs} -/
theorem ps_setDc {i : Nat} {y : PySem.Str} {py : Pos} {kx vx tg iter : Expr} {scope : Scope} {own : List (PySem.Str × Nat)} {pos spos : Pos} {wi : TI} {g : TG} {tk tv : TE} (quiet : X.calm = true) (ndN : X.N.Nodup) (hy : X.N[i]? = some y) (yl : X.env.scope.names.lookup y = some .local)
    (swap : swapsWith (.DictComp kx vx [⟨tg, iter, [], 0⟩] scope pos) (some (.Name y py)) spos.line X.env = pure true) (hi : PI X tg iter wi) (ok : BlkOk X.N X.env.scope scope own)
    (hg : ∀ (s : Shared) (H : Hp) (C : Addr) (cl : List (PySem.Str × Addr)) (fp : List Addr), PG (X.blk s H scope (compEnvC scope cl C X.env) fp) tg g)
    (hk : ∀ (s : Shared) (H : Hp) (C : Addr) (cl : List (PySem.Str × Addr)) (fp : List Addr), PE (X.blk s H scope (compEnvC scope cl C X.env) fp) kx tk)
    (hv : ∀ (s : Shared) (H : Hp) (C : Addr) (cl : List (PySem.Str × Addr)) (fp : List Addr), PE (X.blk s H scope (compEnvC scope cl C X.env) fp) vx tv) (fold : ∀ x, foldedSetIterable iter X.env x = pure x := by intro _; rfl) :
    PS X (.Assign [.Name y py] (.DictComp kx vx [⟨tg, iter, [], 0⟩] scope pos) spos) (tAsg (tDc wi g tYes tk tv (own.map (·.2))) (gName i)) := by
  refine ⟨fun pins s σ H D I h => ?_⟩
  rw [exec_Assign_Name_used _ _ _ _ swap]
  refine wpAny_bind (wpAny_standAt (wpAny_bind (show wpAny _ X.A (do let _ ← comprehension (.DictComp kx vx [⟨tg, iter, [], 0⟩] scope pos) scope X.env (firstIterPos [⟨tg, iter, [], 0⟩] pos) newDict false (eval iter X.env) (some (assign (.Name y py) X.env))) _ _ s from ?_)))
  refine wpAny_bind (thn (dc_core (Q := fun x H1 => gName i x σ H1 D.nx) (Qf := fun _ z => SP X pins D .next z) quiet ndN I hi ok hg (fun _ _ _ _ _ => pts_nil) hk hv fold h fun L C z m H' J q hn f => ?_) fun _ z hq => wpAny_pure (wpAny_pure hq))
  refine (show wpAny _ _ (assign (.Name y py) X.env (.ref L)) _ _ _ from wpAny_assign_Name (store_ok2 (v := V.ref L) J ndN hy (.inl yl) rfl (fun u J2 ⟨a, sb, ha⟩ => ?_) (.inr yl)))
  have other : C ≠ a := ha.elim (fun e => e ▸ f.2.1) fun e k => f.2.2.2.2.1 y a e k.symm
  exact ⟨m, hn.sameBut sb other, fun k sk => ⟨_, H', J2.turned (t' := u.toks) (fun b o hb e => (sk.2 b hb).trans e) f.1 f.2.1 f.2.2.2.1 f.2.2.2.2.1 f.2.2.2.2.2, q⟩⟩
theorem sw_dict {kx vx : Expr} {gs : List Comprehension} {scope : Scope} {pos py : Pos} {y : PySem.Str} {l : Nat} {env : Env} (hk : env.scope.kind = .function) (hy : env.scope.names.lookup y = some .local) (hl : (py.line == pos.line) = true)
    (ha : (scope.names.any fun (n, k) => n == y && (k == .local || k == .cell)) = false) : swapsWith (.DictComp kx vx gs scope pos) (some (.Name y py)) l env = pure true := by
  have k1 : env.kindOf y = some .local := hy
  have k2 : env.blockKind = .function := by unfold Env.blockKind; rw [hk]; rfl
  unfold swapsWith
  simp only [k2, k1, ha, Expr.pos, hl]
  rfl
/-- str(x) by an own __str__ -/
def rStrOwn (C : Addr) (sp : Sp) : List V → Hp → VK → Prop := fun xs H Q => ∃ (a dx : Addr) (fs : List (PySem.Str × V)), xs = [V.ref a] ∧ H a = some (.ins C dx fs) ∧ sp [.ref a] H (fun v H' => ∃ z, v = .str z ∧ Q v H') E0
theorem call_strOwn {C g : Addr} {gd : FuncData} {n : Nat} {sp : Sp} (hs : PySem.W.findIn X.K (.ref C) "__str__" = some (some (.ref g))) (hf : PySem.W.isFn X.K (.ref g) = true) (F : FnOk X.prog X.w X.K X.mg X.base CX0 n g gd ["self"] sp) (hb : Binds X.K gd ["self"] []) (hr : Room (n + 2) X.A) : CallR X (.type "str") (rStrOwn C sp) := by
  intro pins s σ H xs us Q I r h
  obtain ⟨a, dx, fs, rfl, ha, q⟩ := h
  obtain ⟨u, rfl, ru⟩ := vals1 r
  cases ru
  obtain ⟨mA, om, _⟩ := ins_get I.hok ha
  obtain ⟨od, J, _⟩ := om.look
  have room : Room n X.A.in1.in1 := (show Room (n + 1) X.A.in1 from Room.in1 hr).in1
  have hu : X.A.in1.in1.units < cLine := by have := room.un; omega
  have rv : Vals [V.ref a] [Value.ref a] := .cons rfl .nil
  refine PySem.W.kso_call hu I.kIn J hs hf (wpAny_call (codeAny_mono (F.run X.A.in1.in1 X.stack s H ⟨[.ref a], []⟩ [.ref a] [.ref a] _ E0 room I.env0.in1.in1 (hb s [.ref a] I.kIn rfl) rv q) fun r z hq => ?_))
  cases r with
  | error e => exact hq.elim
  | ok fl =>
    cases fl with
    | ret v =>
      obtain ⟨y, H', J2, ry, t, ey, fin⟩ := I.after hq
      subst ey
      obtain ⟨tk, rfl⟩ := (show ∃ tk, v = Value.str t tk from ry)
      exact ⟨.str t, H', J2, ⟨tk, rfl⟩, fin⟩
    | _ => exact False.elim hq
end
end SH

set_option Elab.async false
set_option linter.all false
set_option maxRecDepth 100000
namespace SW
open PySem PySem.SeqAt PySem.Spec PyProof.Rows
open AutoSeq1 (wpAny_loadPart')
open MeetsSeq MeetsSeq2 MeetsSeq3 SeqRoads2
section
variable {M : Model} {prog : Program} {w : World} {A : Around} {E : Value → Shared → Prop} {s : Shared} {K : PySem.W.Frag} {x C f : Addr} {ox : Obj} {od : Option Obj} {b tb : Value}
/-- the != that every class has, bound -/
theorem bound_ne {args : List Value} {Q : Option Value → Shared → Prop} (KX : K.In s.heap) (J : PySem.W.InstAt s.heap x ox C od) (hN : PySem.W.findIn K (.ref C) "__ne__" = some (some (.builtin "object.__ne__")))
    (h : wpAny M A (call (.builtin "object.__ne__") (.ref x :: args)) (fun v => Q (some v)) E s) : wpAny M A (callSpecialIfBound? (.ref x) "__ne__" args) Q E s := by
  simp only [bindSpecialIfBound?, callSpecialIfBound?]
  refine wpAny_holding (wpAny_bind (wpAny_bind (wpAny_bind (J.type.here ((PySem.W.looks_findIn KX hN).here (wpAny_bind (wpAny_askSetting (wpAny_ite ?_))))))))
  have last : wpAny M A (call (.builtin "object.__ne__") ([.ref x] ++ args) >>= fun v => pure (some v)) Q E s := wpAny_bind (wpAny_mono h (fun _ _ z => wpAny_pure z) fun _ _ z => z)
  split
  · exact wpAny_bind (wpAny_of_eq (F.cmp_object.ne.bind _) (wpAny_pure (by exact last)))
  · exact wpAny_tryCatch (wpAny_bind (wpAny_of_eq (F.cmp_object.ne.bind _) (wpAny_pure (by exact last))))
theorem ne_entry {Q : Fin → Shared → Prop} (KX : K.In s.heap) (J : PySem.W.InstAt s.heap x ox C od) (hE : PySem.W.findIn K (.ref C) "__eq__" = some (some (.ref f))) (hf : PySem.W.isFn K (.ref f) = true) (hu : A.units < cLine)
    (hc : wpAny M A (call (.ref f) [.ref x, b]) (fun v s' => ∃ r, v = .bool r ∧ Q (.done (.ret (.bool (!r)))) s') E s) : wpAny M A (Builtin.«object.__ne__» ⟨[.ref x, b], []⟩) Q E s := by
  unfold Builtin.«object.__ne__»
  repeat (first
    | with_reducible refine wpAny_cRoomFor hu ?_
    | (refine wpAny_bind (m := callSpecialIfBound? (.ref x) (Str.ofString "__eq__") [b]) (PySem.W.ifBound_K KX J hE hf (wpAny_mono hc (fun r s' z => by
          obtain ⟨t, rfl, q⟩ := z
          repeat (first | exact q | exact wpAny_pure q | exact wpAny_truthy_bool q | (refine wpAny_bind (m := truthy (.bool _)) (wpAny_truthy_bool ?_)) | wp_step)) fun _ _ z => z)))
    | wp_step)
theorem rc_ne {Q : Value → Shared → Prop} (hu : A.units + 1 < cLine) (KX : K.In s.heap) (J : PySem.W.InstAt s.heap x ox C od) (hb : PySem.W.Looks (model prog w) s.heap (typeOf b) tb) (hn : PySem.W.notFirst K C tb = true)
    (hN : PySem.W.findIn K (.ref C) "__ne__" = some (some (.builtin "object.__ne__"))) (hE : PySem.W.findIn K (.ref C) "__eq__" = some (some (.ref f))) (hf : PySem.W.isFn K (.ref f) = true) (hm : PySem.W.mroIn K C (.type "object") = some true)
    (hc : wpAny (model prog w) A.in1 (call (.ref f) [.ref x, b]) (fun v s' => ∃ r, v = .bool r ∧ Q (.bool (!r)) s') E s) : wpAny (model prog w) A (richCompare .NotEq (.ref x) b) Q E s := by
  have one : wpAny (model prog w) A (tryCompare (.ref x) "__ne__" b) (fun r s' => ∃ v, r = some v ∧ Q v s') E s := by
    unfold tryCompare
    refine wpAny_bind (bound_ne KX J hN (wpAny_call (codeAny_call_builtin F.cmp_object.ne.plain F.cmpEntry_ne (PySem.W.check_slot F.cmpKind_ne F.cmpSplit_ne (J.type.andThen (PySem.W.looks_mroIn KX hm)) (F.cmpArgs_ne _ _)
      (ne_entry (A := A.in1) KX J hE hf hu (wpAny_mono hc (fun v s' z => ?_) fun _ _ z => z))))))
    obtain ⟨r, rfl, q⟩ := z
    exact ⟨r, rfl, wpAny_pure ⟨_, rfl, q⟩⟩
  unfold richCompare
  simp only [oneThing_ref, cmpInfo_NotEq]
  refine wpAny_holding (wpAny_bind (wpAny_cRoomFor (by omega) (wpAny_bind (J.type.here (wpAny_bind (hb.here ?_))))))
  split
  · rename_i q
    have e : PySem.W.subIn K tb (.ref C) = some false := by
      rcases Bool.or_eq_true_iff.mp hn with e | e
      · rw [beq_iff_eq.mp e] at q
        simp at q
      · exact beq_iff_eq.mp e
    refine wpAny_bind ((PySem.W.looks_subIn KX e).here ?_)
    simp only [Bool.false_eq_true, if_false]
    refine wpAny_bind (wpAny_mono one (fun r s' z => ?_) fun _ _ z => z)
    obtain ⟨v, rfl, k⟩ := z
    exact wpAny_pure k
  · refine wpAny_bind (wpAny_pure ?_)
    simp only [Bool.false_eq_true, if_false]
    refine wpAny_bind (wpAny_mono one (fun r s' z => ?_) fun _ _ z => z)
    obtain ⟨v, rfl, k⟩ := z
    exact wpAny_pure k
/-- the right one's own == is asked where the left one, of a built-in type, knows nothing of it -/
theorem rc_back {u : Value} {T : String} {Q : Value → Shared → Prop} (hu : A.units < cLine) (KX : K.In s.heap) (J : PySem.W.InstAt s.heap x ox C od) (hT : s.TypeIs u T) (hs : PySem.W.mroIn K C (.type T) = some false)
    (hE : PySem.W.findIn K (.ref C) "__eq__" = some (some (.ref f))) (hf : PySem.W.isFn K (.ref f) = true) (no : wpAny (model prog w) A (tryCompare u "__eq__" (.ref x)) (fun r s' => r = none ∧ s' = s) E s)
    (hc : wpAny (model prog w) A (call (.ref f) [.ref x, u]) (fun v s' => ∃ r, v = .bool r ∧ Q (.bool r) s') E s) : wpAny (model prog w) A (richCompare .Eq u (.ref x)) Q E s := by
  have two : wpAny (model prog w) A (tryCompare (.ref x) "__eq__" u) (fun r s' => ∃ v, r = some v ∧ Q v s') E s := by
    unfold tryCompare
    refine wpAny_bind (PySem.W.ifBound_K KX J hE hf (wpAny_mono hc (fun v s' z => ?_) fun _ _ z => z))
    obtain ⟨r, rfl, q⟩ := z
    exact wpAny_pure ⟨_, rfl, q⟩
  simp only [richCompare, cmpInfo_Eq, hT.oneThing_none]
  refine wpAny_holding (wpAny_bind (wpAny_cRoomFor hu ?_))
  refine wpAny_bind (wpAny_typeOf hT (wpAny_bind (J.type.here ?_)))
  split
  · refine wpAny_bind ((PySem.W.looks_mroIn KX hs).here ?_)
    simp only [Bool.not_false, Bool.false_eq_true, if_true, if_false]
    refine wpAny_bind (m := tryCompare u _ (.ref x)) (wpAny_mono no (fun r s1 z => ?_) fun _ _ z => z)
    obtain ⟨rfl, rfl⟩ := z
    refine wpAny_bind (m := tryCompare (.ref x) _ u) (wpAny_mono two (fun r s2 z => ?_) fun _ _ z => z)
    obtain ⟨v, rfl, k⟩ := z
    exact wpAny_pure k
  · rename_i q
    exact absurd (by simp) q
/-- y is the one item of a list: is x in it? -/
theorem in_one {l : Addr} {y v : Value} {its : Array Value} {n : Nat} {dd : Option Addr} {sl : Array (Option Value)} {Q : Value → Shared → Prop} (i0 : its[0]? = some y) (hl : s.heap.get? l = some { cls := .type "list", dict := dd, data := .seq its n, slots := sl })
    (he : wpAny (model prog w) A.in1 (eqBool y v) (fun r s' => (∃ (its' : Array Value) (n' : Nat) (dd' : Option Addr) (sl' : Array (Option Value)), its'[1]? = none ∧ s'.heap.get? l = some { cls := .type "list", dict := dd', data := .seq its' n', slots := sl' }) ∧ Q (.bool r) s') E s) : wpAny (model prog w) A (compareOp .In v (.ref l)) Q E s := by
  show wpAny _ A (do return .bool (← contains (.ref l) v)) Q E s
  refine wpAny_bind (wpAny_contains_slot ⟨_, hl, rfl⟩ F.slot_list_contains (wpAny_mono (Q := fun z s' => ∃ r, z = .bool r ∧ Q (.bool r) s') (GQ.call_here F.slot_list_contains ⟨_, hl, rfl⟩ F.entry_list_contains (F.args_list_contains_2 _ _) ?_) (fun z s' hz => ?_) fun _ _ z => z))
  · obtain ⟨hp, g, d, tk, os⟩ := s
    wp_walk using wpAny_loadPart' hl
    refine ⟨plainId_quiet plain_contains_loop _, codeAny_builtin entry_contains_loop ?_⟩
    rw [Around.under_plainId plain_contains_loop _]
    have e0 : its[((0 : Nat) : Int).toNat]? = some y := i0
    have e0' : its[(0 : Int).toNat]? = some y := i0
    wp_walk using wpAny_loadPart' hl
    first | rw [e0] | rw [e0'] | rw [i0]
    refine wpAny_bind (wpAny_mono he (fun r s2 z => ?_) fun _ _ z => z)
    obtain ⟨⟨its', n', dd', sl', i1', hl2⟩, q⟩ := z
    obtain ⟨hp2, g2, d2, tk2, os2⟩ := s2
    cases r with
    | true =>
      wp_walk
      exact ⟨true, rfl, q⟩
    | false =>
      wp_walk
      refine ⟨plainId_quiet plain_contains_loop _, codeAny_builtin entry_contains_loop ?_⟩
      rw [Around.under_plainId plain_contains_loop _]
      have e1 : its'[((0 : Int) + 1).toNat]? = none := i1'
      wp_walk using wpAny_loadPart' hl2
      first | rw [e1] | rw [i1']
      wp_walk
      exact ⟨false, rfl, q⟩
  · obtain ⟨r, rfl, q⟩ := hz
    exact wpAny_truthy_bool (wpAny_pure q)
/-- what knows nothing of an instance -/
theorem no_none (hx : s.heap.get? x = some ox) : wpAny (model prog w) A (tryCompare .none "__eq__" (.ref x)) (fun r s' => r = none ∧ s' = s) E s :=
  wpAny_tryCompare_declines (T := "NoneType") rfl F.slot_NoneType_eq_refl (GQ.call_here F.slot_NoneType_eq_refl rfl F.entry_NoneType_eq (F.args_NoneType_eq_2 _ _) (by
    obtain ⟨hp, g, d, tk, os⟩ := s
    wp_walk
    exact ⟨rfl, rfl, rfl⟩))
theorem no_int {i : Int} {t : Tok} {dx : Addr} (hx : s.heap.get? x = some (PySem.W.instObj C dx)) : wpAny (model prog w) A (tryCompare (.int i t) "__eq__" (.ref x)) (fun r s' => r = none ∧ s' = s) E s :=
  wpAny_tryCompare_declines (T := "int") rfl F.slot_int_eq_refl (GQ.call_here F.slot_int_eq_refl rfl F.entry_int_eq (F.args_int_eq_2 _ _) (by
    obtain ⟨hp, g, d, tk, os⟩ := s
    wp_walk using wpAny_loadPart' hx, wpAny_load hx
    exact ⟨rfl, rfl, rfl⟩))
theorem no_bool {i : Bool} {dx : Addr} (hx : s.heap.get? x = some (PySem.W.instObj C dx)) : wpAny (model prog w) A (tryCompare (.bool i) "__eq__" (.ref x)) (fun r s' => r = none ∧ s' = s) E s :=
  wpAny_tryCompare_declines (T := "bool") rfl F.slot_bool_eq_refl (GQ.call_here F.slot_bool_eq_refl rfl F.entry_int_eq (F.args_int_eq_2 _ _) (by
    obtain ⟨hp, g, d, tk, os⟩ := s
    wp_walk using wpAny_loadPart' hx, wpAny_load hx
    exact ⟨rfl, rfl, rfl⟩))
theorem no_str {i : Str} {t : Tok} {dx : Addr} (hx : s.heap.get? x = some (PySem.W.instObj C dx)) : wpAny (model prog w) A (tryCompare (.str i t) "__eq__" (.ref x)) (fun r s' => r = none ∧ s' = s) E s :=
  wpAny_tryCompare_declines (T := "str") rfl F.slot_str_eq_refl (GQ.call_here F.slot_str_eq_refl rfl F.entry_str_eq (F.args_str_eq_2 _ _) (by
    obtain ⟨hp, g, d, tk, os⟩ := s
    wp_walk using wpAny_loadPart' hx, wpAny_load hx
    exact ⟨rfl, rfl, rfl⟩))
theorem no_list {l : Addr} {its : Array Value} {n : Nat} {dd : Option Addr} {sl : Array (Option Value)} (hl : s.heap.get? l = some { cls := .type "list", dict := dd, data := .seq its n, slots := sl }) (KX : K.In s.heap) (J : PySem.W.InstAt s.heap x ox C od) (hm : PySem.W.mroIn K C (.type "list") = some false) :
    wpAny (model prog w) A (tryCompare (.ref l) "__eq__" (.ref x)) (fun r s' => r = none ∧ s' = s) E s :=
  wpAny_tryCompare_declines (T := "list") ⟨_, hl, rfl⟩ F.slot_list_eq_refl (GQ.call_here F.slot_list_eq_refl ⟨_, hl, rfl⟩ F.entry_list_eq (F.args_list_eq_2 _ _) (by
    have e : PySem.W.Looks (model prog w) s.heap (isInstance (.ref x) (.type "list")) false := J.type.andThen (PySem.W.looks_mroIn KX hm)
    obtain ⟨hp, g, d, tk, os⟩ := s
    wp_walk using wpAny_loadPart' hl, e.here
    exact ⟨rfl, rfl, rfl⟩))
theorem no_tup {l : Addr} {its : Array Value} {n : Nat} {dd : Option Addr} {sl : Array (Option Value)} (hl : s.heap.get? l = some { cls := .type "tuple", dict := dd, data := .seq its n, slots := sl }) (KX : K.In s.heap) (J : PySem.W.InstAt s.heap x ox C od) (hm : PySem.W.mroIn K C (.type "tuple") = some false) :
    wpAny (model prog w) A (tryCompare (.ref l) "__eq__" (.ref x)) (fun r s' => r = none ∧ s' = s) E s :=
  wpAny_tryCompare_declines (T := "tuple") ⟨_, hl, rfl⟩ F.slot_tuple_eq_refl (GQ.call_here F.slot_tuple_eq_refl ⟨_, hl, rfl⟩ F.entry_tuple_eq (F.args_tuple_eq_2 _ _) (by
    have e : PySem.W.Looks (model prog w) s.heap (isInstance (.ref x) (.type "tuple")) false := J.type.andThen (PySem.W.looks_mroIn KX hm)
    obtain ⟨hp, g, d, tk, os⟩ := s
    wp_walk using wpAny_loadPart' hl, e.here
    exact ⟨rfl, rfl, rfl⟩))
end
end SW

set_option Elab.async false
set_option linter.all false
set_option maxRecDepth 100000
namespace SH
open PySem PySem.Spec PyProof.Rows L2
/-- a class with its own ==, and nothing else of that kind -/
structure OwnQ (K : PySem.W.Frag) (C f : Addr) : Prop where
  eq : PySem.W.findIn K (.ref C) "__eq__" = some (some (.ref f))
  fn : PySem.W.isFn K (.ref f) = true
  ne : PySem.W.findIn K (.ref C) "__ne__" = some (some (.builtin "object.__ne__"))
  obj : PySem.W.mroIn K C (.type "object") = some true
  li : PySem.W.mroIn K C (.type "list") = some false
  tu : PySem.W.mroIn K C (.type "tuple") = some false
  it : PySem.W.mroIn K C (.type "int") = some false
  bo : PySem.W.mroIn K C (.type "bool") = some false
  st : PySem.W.mroIn K C (.type "str") = some false
  no : PySem.W.mroIn K C (.type "NoneType") = some false
/-- a promise that gives a truth -/
def Tru (sp : Sp) (a : Addr) (y : V) (H : Hp) (Q : Bool → Hp → Prop) : Prop := sp [.ref a, y] H (fun z H' => ∃ r, z = .bl r ∧ Q r H') E0
section
variable {X : Cx} {n : Nat} {C f : Addr} {fd : FuncData} {ps : List PySem.Str} {sp : Sp} {pins : List (Addr × Obj)} {σ : L2.St} {H : Hp} {s : Shared}
theorem own_run (F : FnOk X.prog X.w X.K X.mg X.base CX0 n f fd ps sp) (hb : Binds X.K fd ps []) {A : Around} (sb : Sub X n A) (I : Inv X pins σ H s) {a : Addr} {y : V} {v : Value} (ry : RelV y v) {Q : Bool → Hp → Prop} (q : Tru sp a y H Q) :
    wpAny (model X.prog X.w) A (call (.ref f) [.ref a, v]) (fun r s' => ∃ z H', r = .bool z ∧ Inv X pins σ H' s' ∧ Q z H') X.xe s := by
  have e0 : Env0 X.prog X.w X.K X.mg X.base A X.stack s H := by
    have e := I.env0
    exact ⟨by rw [sb.fr]; exact e.frames, e.mod, e.bs, e.bsz, e.funs, e.frf, e.hok, e.bare⟩
  have hl := F.len _ _ _ _ q
  have rv : Vals [V.ref a, y] [Value.ref a, v] := .cons rfl (.cons ry .nil)
  refine wpAny_call (codeAny_mono (F.run A X.stack s H ⟨[.ref a, v], []⟩ [.ref a, v] [.ref a, y] _ E0 sb.room e0 (by
    have := hb s [.ref a, v] I.kIn (by simpa using hl)
    simpa using this) rv q) fun r s' hq => ?_)
  cases r with
  | error e => exact hq.elim
  | ok fl =>
    cases fl with
    | ret w =>
      obtain ⟨z, H', I', rz, t, rfl, k⟩ := I.after hq
      cases rz
      exact ⟨t, H', rfl, I', k⟩
    | next => exact False.elim hq
    | brk => exact False.elim hq
    | cont => exact False.elim hq
def rEqO (K : PySem.W.Frag) (C : Addr) (sp : Sp) (neg : Bool) : R2 := fun x y H Q => ∃ (a dx : Addr) (fs : List (PySem.Str × V)) (t : Value), x = .ref a ∧ H a = some (.ins C dx fs) ∧ TyX K H y t ∧ PySem.W.notFirst K C t = true ∧ Tru sp a y H fun r H' => Q (.bl (if neg then !r else r)) H'
theorem rc_own (T : OwnQ X.K C f) (F : FnOk X.prog X.w X.K X.mg X.base CX0 n f fd ps sp) (hb : Binds X.K fd ps []) {A : Around} (sb : Sub X n A) (I : Inv X pins σ H s) {a dx : Addr} {fs : List (PySem.Str × V)} {y : V} {v t : Value} (ha : H a = some (.ins C dx fs)) (ry : RelV y v) (ty : TyX X.K H y t) (nf : PySem.W.notFirst X.K C t = true) {Q : Bool → Hp → Prop} (q : Tru sp a y H Q) :
    wpAny (model X.prog X.w) A (richCompare .Eq (.ref a) v) (fun r s' => ∃ z H', r = .bool z ∧ Inv X pins σ H' s' ∧ Q z H') X.xe s := by
  obtain ⟨mA, om, _⟩ := ins_get I.hok ha
  obtain ⟨od, J, _⟩ := om.look
  obtain ⟨P, Z, p, _⟩ := kit_of I ry ty
  obtain ⟨m, hF⟩ := I.fr
  refine PySem.W.cmp_K (op := .Eq) sb.room.units0 hF I.ok.mod.kin J (Z.ty _ _ I.kIn p) nf T.eq T.fn (wpAny_mono (own_run F hb sb I ry q) (fun r s' z => ?_) fun _ _ z => z)
  obtain ⟨t, H', rfl, k⟩ := z
  exact ⟨t, H', rfl, k⟩
theorem op_eqO (T : OwnQ X.K C f) (F : FnOk X.prog X.w X.K X.mg X.base CX0 n f fd ps sp) (hb : Binds X.K fd ps []) (hr : Room n X.A) : OpR X (compareOp .Eq) (rEqO X.K C sp false) := by
  intro pins s σ H x y v u Q I rx ry h
  obtain ⟨a, dx, fs, t, rfl, ha, ty, nf, q⟩ := h
  cases rx
  refine (show wpAny (model X.prog X.w) X.A (richCompare .Eq (.ref a) u) _ _ s from wpAny_mono (rc_own T F hb ⟨hr, rfl⟩ I ha ry ty nf q) (fun r s' z => ?_) fun _ _ z => z)
  obtain ⟨t, H', rfl, I', k⟩ := z
  exact ⟨.bl t, H', I', rfl, k⟩
theorem op_neO (T : OwnQ X.K C f) (F : FnOk X.prog X.w X.K X.mg X.base CX0 n f fd ps sp) (hb : Binds X.K fd ps []) (hr : Room (n + 1) X.A) : OpR X (compareOp .NotEq) (rEqO X.K C sp true) := by
  intro pins s σ H x y v u Q I rx ry h
  obtain ⟨a, dx, fs, t, rfl, ha, ty, nf, q⟩ := h
  cases rx
  obtain ⟨mA, om, _⟩ := ins_get I.hok ha
  obtain ⟨od, J, _⟩ := om.look
  obtain ⟨P, Z, p, _⟩ := kit_of I ry ty
  have hu : X.A.units + 1 < cLine := hr.in1.units0
  refine (show wpAny (model X.prog X.w) X.A (richCompare .NotEq (.ref a) u) _ _ s from SW.rc_ne hu I.kIn J (Z.ty _ _ I.kIn p) nf T.ne T.eq T.fn T.obj (wpAny_mono (own_run F hb ⟨hr.in1, rfl⟩ I ry q) (fun r s' z => ?_) fun _ _ z => z))
  obtain ⟨t, H', rfl, I', k⟩ := z
  exact ⟨t, rfl, .bl (!t), H', I', rfl, k⟩
/-- b in [a], both of the class, not the same -/
def rInO (K : PySem.W.Frag) (C : Addr) (sp : Sp) : R2 := fun x y H Q => ∃ (a b l dx : Addr) (fs : List (PySem.Str × V)) (t : Value), x = .ref b ∧ y = .ref l ∧ b ≠ a ∧ H l = some (.lst [.ref a]) ∧ H a = some (.ins C dx fs) ∧ TyX K H x t ∧ PySem.W.notFirst K C t = true ∧ Tru sp a x H fun r H' => H' l = some (.lst [.ref a]) ∧ Q (.bl r) H'
theorem op_inO (T : OwnQ X.K C f) (F : FnOk X.prog X.w X.K X.mg X.base CX0 n f fd ps sp) (hb : Binds X.K fd ps []) (hr : Room (n + 1) X.A) : OpR X (compareOp .In) (rInO X.K C sp) := by
  intro pins s σ H x y v u Q I rx ry h
  obtain ⟨a, b, l, dx, fs, t, rfl, rfl, ne, hl, ha, ty, nf, q⟩ := h
  cases rx
  cases ry
  obtain ⟨_, its, n0, rv, hl1⟩ := (show ObjOk X.prog X.w H s.heap l (.lst [.ref a]) from I.hok l _ hl)
  obtain ⟨u1, e1, r1⟩ := vals1 rv
  subst e1
  cases r1
  refine SW.in_one (y := .ref a) rfl hl1 (GQ.eqBool_refG (Ne.symm ne) (wpAny_mono (rc_own T F hb ⟨hr.in1, rfl⟩ I ha (show RelV (.ref b) (.ref b) from rfl) ty nf q) (fun r s' z => ?_) fun _ _ z => z))
  obtain ⟨t, H', rfl, I', hl', k⟩ := z
  obtain ⟨_, its', n1, rv', hl2⟩ := (show ObjOk X.prog X.w H' s'.heap l (.lst [.ref a]) from I'.hok l _ hl')
  obtain ⟨u2, e2, _⟩ := vals1 rv'
  subst e2
  exact ⟨t, rfl, ⟨_, _, _, _, rfl, hl2⟩, .bl t, H', I', rfl, k⟩
/-- a thing of a built-in type -/
inductive Alien (H : Hp) : V → Prop where
  | non : Alien H .non
  | bl (b : Bool) : Alien H (.bl b)
  | int (i : Int) : Alien H (.int i)
  | str (z : PySem.Str) : Alien H (.str z)
  | lst {p : Addr} {xs : List V} (e : H p = some (.lst xs)) : Alien H (.ref p)
  | tup {p : Addr} {xs : List V} (e : H p = some (.tup xs)) : Alien H (.ref p)
theorem Alien.ty {K : PySem.W.Frag} {H : Hp} {C : Addr} {z : V} (h : Alien H z) : ∃ t, TyX K H z t ∧ PySem.W.notFirst K C t = true := by
  have no : ∀ T l, fastBuiltinMro T = some l → l.contains (Value.ref C) = false → PySem.W.notFirst K C (.type T) = true := fun T l e c => by
    have : PySem.W.subIn K (.type T) (.ref C) = some false := by
      show (fastBuiltinMro T).map (·.contains (.ref C)) = some false
      rw [e, Option.map_some, c]
    unfold PySem.W.notFirst
    rw [this]
    simp
  cases h with
  | non => exact ⟨_, .base .non, no "NoneType" [.type "NoneType", .type "object"] (by decide +kernel) (by simp)⟩
  | bl b => exact ⟨_, .base (.bl b), no "bool" [.type "bool", .type "int", .type "object"] (by decide +kernel) (by simp)⟩
  | int i => exact ⟨_, .base (.int i), no "int" [.type "int", .type "object"] (by decide +kernel) (by simp)⟩
  | str z => exact ⟨_, .base (.str z), no "str" [.type "str", .type "object"] (by decide +kernel) (by simp)⟩
  | lst e => exact ⟨_, .base (.lst e), no "list" [.type "list", .type "object"] (by decide +kernel) (by simp)⟩
  | tup e => exact ⟨_, .base (.tup e), no "tuple" [.type "tuple", .type "object"] (by decide +kernel) (by simp)⟩
theorem eq_alien (T : OwnQ X.K C f) (F : FnOk X.prog X.w X.K X.mg X.base CX0 n f fd ps sp) (hb : Binds X.K fd ps []) {A : Around} (sb : Sub X n A) (I : Inv X pins σ H s) {a dx : Addr} {fs : List (PySem.Str × V)} {z : V} {v : Value} (ha : H a = some (.ins C dx fs)) (rz : RelV z v) (al : Alien H z) {Q : Bool → Hp → Prop} (q : Tru sp a z H Q) :
    wpAny (model X.prog X.w) A (eqBool v (.ref a)) (fun r s' => ∃ H', Inv X pins σ H' s' ∧ Q r H') X.xe s := by
  obtain ⟨mA, om, _⟩ := ins_get I.hok ha
  obtain ⟨od, J, _⟩ := om.look
  have run := own_run F hb sb I rz q
  have hu := sb.room.units0
  have back : ∀ {T' : String}, s.TypeIs v T' → PySem.W.mroIn X.K C (.type T') = some false → wpAny (model X.prog X.w) A (tryCompare v "__eq__" (.ref a)) (fun r s' => r = none ∧ s' = s) X.xe s →
      wpAny (model X.prog X.w) A (richCompare .Eq v (.ref a)) (fun w s' => ∃ r H', w = .bool r ∧ Inv X pins σ H' s' ∧ Q r H') X.xe s := fun hT hm no =>
    SW.rc_back hu I.kIn J hT hm T.eq T.fn no (wpAny_mono run (fun w s' k => by
      obtain ⟨r, H', rfl, I', k⟩ := k
      exact ⟨r, rfl, r, H', rfl, I', k⟩) fun _ _ k => k)
  have flat : (v == Value.ref a) = false → (∀ bits tok, v ≠ .float bits tok) → wpAny (model X.prog X.w) A (richCompare .Eq v (.ref a)) (fun w s' => ∃ r H', w = .bool r ∧ Inv X pins σ H' s' ∧ Q r H') X.xe s →
      wpAny (model X.prog X.w) A (eqBool v (.ref a)) (fun r s' => ∃ H', Inv X pins σ H' s' ∧ Q r H') X.xe s := fun ne _ h => by
    unfold eqBool
    refine wpAny_holding (wpAny_ite_split (fun k => absurd k (by rw [ne]; simp)) fun _ => ?_)
    have go : wpAny (model X.prog X.w) A (do let r ← richCompare .Eq v (.ref a); truthOfDropped r) (fun r s' => ∃ H', Inv X pins σ H' s' ∧ Q r H') X.xe s := by
      refine wpAny_bind (wpAny_mono h (fun w s' k => ?_) fun _ _ k => k)
      obtain ⟨r, H', rfl, I', k⟩ := k
      exact wpAny_truthy_bool ⟨H', I', k⟩
    cases v <;> exact go
  cases al with
  | non =>
    cases rz
    exact flat rfl (fun _ _ k => nomatch k) (back rfl T.no (SW.no_none J.at_))
  | bl b =>
    cases rz
    exact flat rfl (fun _ _ k => nomatch k) (back rfl T.bo (SW.no_bool J.at_))
  | int i =>
    obtain ⟨t, rfl⟩ := rz
    exact flat rfl (fun _ _ k => nomatch k) (back rfl T.it (SW.no_int J.at_))
  | str i =>
    obtain ⟨t, rfl⟩ := rz
    exact flat rfl (fun _ _ k => nomatch k) (back rfl T.st (SW.no_str J.at_))
  | @lst p xs e =>
    cases rz
    obtain ⟨_, its, n0, _, hl⟩ := (show ObjOk X.prog X.w H s.heap p (.lst xs) from I.hok p _ e)
    have ne : p ≠ a := fun k => by
      rw [k, ha] at e
      cases e
    exact flat (by simpa using ne) (fun _ _ k => nomatch k) (back ⟨_, hl, rfl⟩ T.li (SW.no_list hl I.kIn J T.li))
  | @tup p xs e =>
    cases rz
    obtain ⟨_, its, _, o, h1, h2, n0, h3⟩ := (show ObjOk X.prog X.w H s.heap p (.tup xs) from I.hok p _ e)
    have ne : p ≠ a := fun k => by
      rw [k, ha] at e
      cases e
    obtain ⟨oc, od', dt, sl⟩ := o
    simp only at h2 h3
    subst h2 h3
    exact flat (by simpa using ne) (fun _ _ k => nomatch k) (back ⟨_, h1, rfl⟩ T.tu (SW.no_tup h1 I.kIn J T.tu))
/-- a in [z], z of a built-in type -/
def rInB (C : Addr) (sp : Sp) : R2 := fun x y H Q => ∃ (a l dx : Addr) (fs : List (PySem.Str × V)) (z : V), x = .ref a ∧ y = .ref l ∧ H l = some (.lst [z]) ∧ H a = some (.ins C dx fs) ∧ Alien H z ∧ Tru sp a z H fun r H' => H' l = some (.lst [z]) ∧ Q (.bl r) H'
theorem op_inB (T : OwnQ X.K C f) (F : FnOk X.prog X.w X.K X.mg X.base CX0 n f fd ps sp) (hb : Binds X.K fd ps []) (hr : Room (n + 1) X.A) : OpR X (compareOp .In) (rInB C sp) := by
  intro pins s σ H x y v u Q I rx ry h
  obtain ⟨a, l, dx, fs, z, rfl, rfl, hl, ha, al, q⟩ := h
  cases rx
  cases ry
  obtain ⟨_, its, n0, rv, hl1⟩ := (show ObjOk X.prog X.w H s.heap l (.lst [z]) from I.hok l _ hl)
  obtain ⟨u1, e1, r1⟩ := vals1 rv
  subst e1
  refine SW.in_one (y := u1) rfl hl1 (wpAny_mono (eq_alien T F hb ⟨hr.in1, rfl⟩ I ha r1 al q) (fun r s' k => ?_) fun _ _ k => k)
  obtain ⟨H', I', hl', k⟩ := k
  obtain ⟨_, its', n1, rv', hl2⟩ := (show ObjOk X.prog X.w H' s'.heap l (.lst [z]) from I'.hok l _ hl')
  obtain ⟨u2, e2, _⟩ := vals1 rv'
  subst e2
  exact ⟨⟨_, _, _, _, rfl, hl2⟩, .bl r, H', I', rfl, k⟩
end
end SH

set_option Elab.async false
set_option linter.all false
set_option maxRecDepth 100000
/-! repr of plain data; defs that ask for it, which are called where no such text is under way. -/
namespace SH
open PySem PySem.Spec PyProof.Rows L2
/-- a def's promise, where no guard stands around the call -/
structure FnG (P : Program) (w : World) (K : PySem.W.Frag) (mg : PySem.Str → Option Value) (base : Heap) (k : Nat) (f : Addr) (fd : FuncData) (ps : List PySem.Str) (sp : Sp) : Prop where
  len : ∀ vs H Q E, sp vs H Q E → vs.length = ps.length
  run : ∀ (A : Around) (outer : List Env) (s : Shared) (H : Hp) (args : Args) (us : List Value) (vs : List V) (Q : VK) (E : XK), A.guards = some [] → Room k A → Env0 P w K mg base A outer s H →
    BindsTo s fd args (ps.zip us) → Vals vs us → sp vs H Q E → codeAny (model P w) A (.call (.ref f) args) (CR CX0 outer P w H s Q E) s
section
variable {P : Program} {w : World} {K : PySem.W.Frag} {mg : PySem.Str → Option Value} {base : Heap}
theorem FnG.of {k : Nat} {f : Addr} {fd : FuncData} {ps : List PySem.Str} {sp : Sp} (F : FnOk P w K mg base CX0 k f fd ps sp) : FnG P w K mg base k f fd ps sp :=
  ⟨F.len, fun A outer s H args us vs Q E _ => F.run A outer s H args us vs Q E⟩
theorem FnG.mono {j k : Nat} {f : Addr} {fd : FuncData} {ps : List PySem.Str} {sp : Sp} (F : FnG P w K mg base j f fd ps sp) (h : j ≤ k) : FnG P w K mg base k f fd ps sp :=
  ⟨F.len, fun A outer s H args us vs Q E g r => F.run A outer s H args us vs Q E g (r.mono h)⟩
/-- a def of the text, by its body -/
theorem okG {x qual : PySem.Str} {st : Stmt} {f : Addr} {fd : FuncData} {N ps : List PySem.Str} {k : Nat} {sp : Sp} (F : Fun K x qual st f fd) (S : FnScope N ps (defScope st)) (len : ∀ vs H Q E, sp vs H Q E → vs.length = ps.length)
    (body : ∀ (cdv : Value) (A : Around) (outer : List Env) (s : Shared) (H : Hp) (vs : List V) (Q : VK) (E : XK), (A.deeper (envOfC qual (defScope st) s.heap.objs.size f cdv)).guards = some [] → Room k (A.deeper (envOfC qual (defScope st) s.heap.objs.size f cdv)) → sp vs H Q E →
      ∃ t, PSs (cxOf CX0 P w K mg base N qual (defScope st) f cdv A outer s H E).nox (defBody st) t ∧ t { nx := fun _ H' => Q .non H', rt := Q } (start N vs) H) : FnG P w K mg base (k + 1) f fd ps sp := by
  obtain ⟨oc, od, kV, doc, pm, an, cdv, ct, osl, rfl, look, code⟩ := F.ex
  refine ⟨len, ?_⟩
  intro A outer s H args us vs Q E gd room env bind rel want
  have many := len _ _ _ _ want
  have still : ∀ b o, base.get? b = some o → s.heap.get? b = some o := fun b o e => (env.bs b o e).1
  have inK := env.mod.kin.keeps still
  refine codeAny_call_function room.depth (inK _ _ look) rfl S.co S.gen rfl (PySem.W.codeRec_of inK code) (bind _ _ _ _ ?_)
  refine wpAny_newFunctionEnv_cells S.kind ?_ fun env' he s1 made => ?_
  · rintro ⟨n, v⟩ hy
    cases S.par n (List.of_mem_zip hy).1 with
    | inl q => exact .inl q
    | inr q => exact .inr ⟨q, PySem.W.cellsFrom_some _ _ _ (.inl q)⟩
  subst he
  refine ⟨(env.mod.nolimit.keeps still).keeps made.toInCall.keep, codeAny_func ?_⟩
  obtain ⟨t, ht, hq⟩ := body cdv A outer s H vs Q E gd (room.deeper _) want
  have begun : Inv (cxOf CX0 P w K mg base N qual (defScope st) f cdv A outer s H E) [] (start N vs) H s1 := inv_start S room.hd env many rel made
  refine wpAny_mono (ht.nox.run [] s1 _ H _ begun hq) (fun fl s' out => ?_) fun _ _ out => out
  cases fl with
  | ret u => exact let ⟨v, _, H', J, rv, q⟩ := out; ⟨v, H', J.os, J.bare, J.base, J.hok, rv, q⟩
  | next => exact let ⟨_, H', J, q⟩ := out; ⟨V.non, H', J.os, J.bare, J.base, J.hok, rfl, q⟩
  | brk => exact (let ⟨_, _, _, q⟩ := out; False.elim q)
  | cont => exact (let ⟨_, _, _, q⟩ := out; False.elim q)
end
section
variable {X : Cx}
/-- f(..) of such a def -/
theorem pe_callG {k : Nat} {f : Addr} {fd : FuncData} {ps : List PySem.Str} {sp : Sp} {x : PySem.Str} {p pos : Pos} {e : Expr} {es : List Expr} {t : TA} (F : FnG X.prog X.w X.K X.mg X.base k f fd ps sp) (gd : X.A.guards = some []) (hr : Room k X.A) (hg : Gl X x) (hm : X.mg x = some (.ref f)) (hk : PySem.W.keepIn X.K (.ref f) = true) (hb : Binds X.K fd ps [])
    (ha : PA X (e :: es) t) (hdb : (x == ("__debug__" : PySem.Str)) = false := by decide) (he : starEach (e :: es) X.env = (false, eval e X.env) :: starEach es X.env := by rfl) (hpl : (backTo pos (starEach es X.env)).any (·.1) = false := by rfl) :
    PE X (.Call (.Name x p) (e :: es) [] pos) (tCall sp [] E0 t) := by
  constructor
  intro pins s σ H Q I h
  refine wpAny_Call_Name_kw (ld_glob I hg hm ?_ hdb)
  refine PySem.W.callWith_K (h₀ := X.base) I.ok.mod.kin hk (thn (ha.run pos pins s σ H _ I h) ?_) he hpl
  rintro us s1 ⟨vs, H1, I1, r, q⟩
  rw [List.append_nil] at q
  refine ⟨I1.kIn, wpAny_call (codeAny_mono (F.run X.A X.stack s1 H1 ⟨us, []⟩ us vs Q E0 gd hr I1.env0 ?_ r q) fun r' s' hq => ?_)⟩
  · have := hb s1 us I1.kIn (by rw [List.append_nil, ← r.length]; exact F.len _ _ _ _ q)
    rwa [List.append_nil] at this
  · cases r' with
    | error e => exact False.elim hq
    | ok fl =>
      cases fl with
      | ret u => exact I1.after hq
      | next => exact False.elim hq
      | brk => exact False.elim hq
      | cont => exact False.elim hq
/-- repr(x), x a list or tuple of plain data -/
def rRepr (K : PySem.W.Frag) : List V → Hp → VK → Prop := fun xs H Q => ∃ (a : Addr) (d : PyData), xs = [.ref a] ∧ Dp K H (.ref a) d ∧ d.showable = true ∧ d.hasDict = false ∧ d.depth ≤ 60 ∧ d.shown.length ≤ sizeLine ∧ Q (.str d.shown) H
theorem call_reprD (gd : X.A.guards = some []) (hu : X.A.units + 64 < cLine) : CallR X (.builtin "repr") (rRepr X.K) := by
  intro pins s σ H xs us Q I r h
  obtain ⟨a, d, rfl, dp, sh, nd, de, sz, q⟩ := h
  obtain ⟨u, rfl, ru⟩ := vals1 r
  cases ru
  obtain ⟨as, rd⟩ := Dp.reads I d _ _ dp rfl
  refine repr_of_reads' rd sh (fun z => by rw [nd] at z; cases z) gd (by omega) (fun _ _ e => e) (fun h' t tk kp => ?_) sz
  exact ⟨.str d.shown, H, I.kept (t' := tk) kp, ⟨_, rfl⟩, q⟩
theorem call_reprK (K : PySem.W.Frag) (gd : X.A.guards = some []) (hu : X.A.units + 64 < cLine) (hK : X.K = K := by rfl) : CallR X (.builtin "repr") (rRepr K) := hK ▸ call_reprD gd hu
end
/-! ### the beginning -/
/-- the heap in which the script alone is known, and what comes of the law's end -/
theorem law_begin {P : Program} {w : World} {K : PySem.W.Frag} {mg mb : PySem.Str → Option Value} {a : Addr} {s₁ : Shared} {vs : List Value} {ns : List Int} (inK : K.In s₁.heap) (gl : s₁.heap.Ns mainGlobals mg) (bl : s₁.heap.Ns builtinsNs mb) (boot : ∀ x : PySem.Str, x ≠ "__name__" → mb x = bootBuiltins x) (nl : s₁.heap.NoLimit) (gens : s₁.gens = #[])
    (at_ : s₁.heap.get? a = some { cls := .type "list", data := .seq vs.toArray }) (hin : IntsAre vs ns) (few : ns.length ≤ sizeLine) :
    ∃ (H : Hp) (base : Heap), SqL K H a (ns.map V.int) ∧ Env0 P w K mg base callerA [] s₁ H ∧ K.In base ∧ base.Ns mainGlobals mg ∧ ∀ (r : Result) (s' : Shared), CR CX0 [] P w H s₁ (fun v _ => v = .bl true) E0 r s' → r = .ok (.ret (.bool true)) ∧ OldK s₁.heap s'.heap ∧ s'.os = s₁.os ∧ AllBare s'.gens := by
  have vals := vals_ints hin
  have many := hin.length
  -- any heap that knows no more than the script, as it lies there
  have any : ∀ H : Hp, (∀ b u, H b = some u → b = a ∧ K.lookup a = none ∧ ∃ o xs, u = .frz o xs) → SqL K H a (ns.map V.int) → HOk P w H s₁.heap →
      ∃ (H : Hp) (base : Heap), SqL K H a (ns.map V.int) ∧ Env0 P w K mg base callerA [] s₁ H ∧ K.In base ∧ base.Ns mainGlobals mg ∧ ∀ (r : Result) (s' : Shared), CR CX0 [] P w H s₁ (fun v _ => v = .bl true) E0 r s' → r = .ok (.ret (.bool true)) ∧ OldK s₁.heap s'.heap ∧ s'.os = s₁.os ∧ AllBare s'.gens := by
    intro H only sq ok
    have clear : ∀ {b : Addr} {o : Obj}, s₁.heap.get? b = some o → (b = a → K.lookup a = none → False) → (hidT s₁.heap H).get? b = some o := fun {b o} e no => by
      refine hidT_get e ?_
      cases q : H b with
      | none => rfl
      | some u => exact (no (only b u q).1 (only b u q).2.1).elim
    have ns' : ∀ {b : Addr} {m : PySem.Str → Option Value}, s₁.heap.Ns b m → (hidT s₁.heap H).Ns b m := by
      rintro b m ⟨o, es, ep, e, d, r⟩
      refine ⟨o, es, ep, clear e fun z _ => ?_, d, r⟩
      subst z
      rw [at_] at e
      cases e
      cases (show Data.seq vs.toArray _ = Data.dict es ep from d)
    have kb : K.In (hidT s₁.heap H) := fun b o e => clear (inK b o e) fun z n => by
      subst z
      rw [n] at e
      cases e
    refine ⟨H, hidT s₁.heap H, sq, ⟨rfl, ⟨kb, ns' gl, ⟨mb, ns' bl, boot⟩, ?_⟩, fun b o e => of_hidT e, Nat.le_of_eq (hidT_size _ _), trivial, ?_, ok, .of_eq gens⟩, kb, ns' gl, ?_⟩
    · obtain ⟨mc, h1, h2⟩ := nl
      exact ⟨mc, ns' h1, h2⟩
    · intro b hb
      cases (show b ∈ ([] : List Addr) from hb)
    · intro r s' h
      cases r with
      | error e => exact False.elim h
      | ok fl =>
        cases fl with
        | next => exact False.elim h
        | brk => exact False.elim h
        | cont => exact False.elim h
        | ret u =>
          obtain ⟨v, H', os, bare, un, ok', rv, q⟩ := h
          cases (show v = .bl true from q)
          cases (show u = Value.bool true from rv)
          refine ⟨rfl, OldK.of_keep fun b o e => ?_, os, bare⟩
          cases q : H b with
          | none => exact un.keep b o e q (fun z => by cases (show b ∈ ([] : List Addr) from z)) (by simp)
          | some u =>
            obtain ⟨_, _, ob, xs, rfl⟩ := only b u q
            have e1 := (ok b _ q).1
            rw [e] at e1
            cases e1
            exact (ok' b _ (un.frzs b _ _ q)).1
  cases look : K.lookup a with
  | some o =>
    have e := inK a o look
    rw [at_] at e
    cases e
    refine any (fun _ => none) (fun b u z => by cases z) ?_ (fun b u z => by cases (show (none : Option HO) = some u from z))
    exact .inr ⟨_, vs.toArray, _, look, rfl, rfl, rfl, by rw [List.size_toArray, many]; exact few, by simpa using vals⟩
  | none =>
    refine any (fun b => if b = a then some (.frz { cls := .type "list", data := .seq vs.toArray } (.lst (ns.map V.int))) else none) ?_ (.inl (.inr ⟨{ cls := .type "list", data := .seq vs.toArray }, if_pos rfl⟩)) ?_
    · intro b u z
      by_cases hb : b = a
      · rw [if_pos hb] at z
        cases z
        exact ⟨hb, look, _, _, rfl⟩
      · rw [if_neg hb] at z
        cases z
    · intro b u z
      by_cases hb : b = a
      · have z' := (if_pos hb).symm.trans z
        cases z'
        subst hb
        exact ⟨at_, by rw [List.length_map]; exact few, vs, _, vals, at_⟩
      · cases (if_neg hb).symm.trans z
/-- the law's walk, from such a promise of it -/
theorem walk_G {l : PySem.W.OpenLaw} {k : Nat} {q : Program} {loose : List PySem.Str} {XP : (PySem.Str → Option Value) → Heap → Prop} {YP : World → Heap → Prop} {d : DefRec} {K : Params → PySem.W.Frag} {sp : PySem.W.Frag → Sp} (most : l.most = some 63) (nodf : d.params.defaults = []) (room : Room k callerA)
    (hY : ∀ (w : World) (h : Heap), YP w h → (K w.params).In h)
    (F : ∀ (w : World) (mg : PySem.Str → Option Value) (fa : Addr) (h : Heap), (K w.params).In h → h.Ns mainGlobals mg → mg d.name = some (.ref fa) →
      ∃ fd : FuncData, (∀ (s : Shared) (u : Value), BindsTo s fd ⟨[u], []⟩ [("_law_script", u)]) ∧ ∀ base : Heap, (K w.params).In base → base.Ns mainGlobals mg → FnG l.prog w (K w.params) mg base k fa fd ["_law_script"] (sp (K w.params)))
    (hsp : ∀ (K : PySem.W.Frag) (H : Hp) (a : Addr) (ns : List Int), ns.length ≤ 63 → SqL K H a (ns.map V.int) → sp K [.ref a] H (fun v _ => v = .bl true) E0) :
    PySem.W.WalkO q loose XP YP l.row.toRowW d [] (fun f vs => PySem.call f vs) := by
  refine Att.attach_call most nodf fun w s₀ s₁ mg mb fa o pm cd doc a vs ns G Y ho hd hcd hmg hobj hints hlen hg => ?_
  obtain ⟨fd, hb, hF⟩ := F w mg fa _ (hY w _ Y) G.T.g hmg
  obtain ⟨H, base, sq, env, kb, nb, out⟩ := law_begin (P := l.prog) (w := w) (hY w _ Y) G.T.g G.T.b G.T.builtins G.T.nolimit hg hobj hints (Nat.le_trans hlen (by decide))
  exact codeAny_mono ((hF base kb nb).run callerA [] s₁ H ⟨[.ref a], []⟩ [.ref a] [.ref a] _ _ rfl room env (hb s₁ (.ref a)) (.cons rfl .nil) (hsp _ H a ns hlen sq)) out
end SH

set_option Elab.async false
set_option linter.all false
set_option maxRecDepth 100000
/-! plain data of tuples: how deep, how long their text. -/
namespace SH
open PySem L2
mutual
def onlyT : PyData → Bool
  | .none => true
  | .bool _ => true
  | .int _ => true
  | .str _ => true
  | .list _ => false
  | .tuple ds => onlyTs ds
  | .dict _ => false
def onlyTs : List PyData → Bool
  | [] => true
  | d :: ds => onlyT d && onlyTs ds
end
theorem onlyTs_mem : ∀ {ds : List PyData}, (∀ d ∈ ds, onlyT d = true) → onlyTs ds = true
  | [], _ => rfl
  | d :: ds, h => by
    show (onlyT d && onlyTs ds) = true
    rw [h d (List.mem_cons_self ..), onlyTs_mem fun e he => h e (List.mem_cons_of_mem _ he)]
    rfl
theorem mem_onlyTs : ∀ {ds : List PyData}, onlyTs ds = true → ∀ d ∈ ds, onlyT d = true
  | [], _, d, hd => by cases hd
  | e :: ds, h, d, hd => by
    have h' : (onlyT e && onlyTs ds) = true := h
    rw [Bool.and_eq_true] at h'
    rcases List.mem_cons.mp hd with rfl | hd
    · exact h'.1
    · exact mem_onlyTs h'.2 d hd
/-! such data stay where the tuples stay -/
def KpT (K : PySem.W.Frag) (H H' : Hp) : Prop := ∀ a xs, SqT K H a xs → SqT K H' a xs
mutual
theorem Dp.keep {K : PySem.W.Frag} {H H' : Hp} (h : KpT K H H') : ∀ {d : PyData} {v : V}, onlyT d = true → Dp K H v d → Dp K H' v d
  | .none, _, _, .non => .non
  | .bool _, _, _, .bl b => .bl b
  | .int _, _, _, .int i => .int i
  | .str _, _, _, .str x => .str x
  | .list _, _, o, _ => by cases o
  | .tuple ds, _, o, .tup s q => .tup (h _ _ s) (DpAll.keep h o q)
  | .dict _, _, o, _ => by cases o
theorem DpAll.keep {K : PySem.W.Frag} {H H' : Hp} (h : KpT K H H') : ∀ {ds : List PyData} {vs : List V}, onlyTs ds = true → DpAll K H vs ds → DpAll K H' vs ds
  | [], _, _, .nil => .nil
  | d :: ds, _, o, .cons a b => by
    have o' : (onlyT d && onlyTs ds) = true := o
    rw [Bool.and_eq_true] at o'
    exact .cons (Dp.keep h o'.1 a) (DpAll.keep h o'.2 b)
end
theorem Same.kpT {K : PySem.W.Frag} {H H' : Hp} (s : Same H H') : KpT K H H' := fun a xs h => by
  rcases h with (h | ⟨o, h⟩) | h
  · exact .inl (.inl (s _ _ h))
  · exact .inl (.inr ⟨o, s _ _ h⟩)
  · exact .inr h
theorem KpT.trans {K : PySem.W.Frag} {H H1 H2 : Hp} (a : KpT K H H1) (b : KpT K H1 H2) : KpT K H H2 := fun x xs h => b x xs (a x xs h)
theorem KpT.lst {K : PySem.W.Frag} {H : Hp} {l : Addr} {xs zs : List V} (h : H l = some (.lst xs)) : KpT K H (upd H l (.lst zs)) := fun a ys q => by
  rcases q with (q | ⟨o, q⟩) | q
  · exact .inl (.inl (by rw [upd_ne (fun z => by rw [z, h] at q; cases q)]; exact q))
  · exact .inl (.inr ⟨o, by rw [upd_ne (fun z => by rw [z, h] at q; cases q)]; exact q⟩)
  · exact .inr q
theorem DpAll.app {K : PySem.W.Frag} {H : Hp} : ∀ {as bs : List V} {ds es : List PyData}, DpAll K H as ds → DpAll K H bs es → DpAll K H (as ++ bs) (ds ++ es)
  | _, _, _, _, .nil, q => q
  | _, _, _, _, .cons a b, q => .cons a (DpAll.app b q)
theorem DpAll.len {K : PySem.W.Frag} {H : Hp} : ∀ {as : List V} {ds : List PyData}, DpAll K H as ds → as.length = ds.length
  | _, _, .nil => rfl
  | _, _, .cons _ b => by rw [List.length_cons, List.length_cons, DpAll.len b]
theorem DpAll.rev {K : PySem.W.Frag} {H : Hp} : ∀ {as : List V} {ds : List PyData}, DpAll K H as ds → DpAll K H as.reverse ds.reverse
  | _, _, .nil => .nil
  | _, _, .cons a b => by
    rw [List.reverse_cons, List.reverse_cons]
    exact DpAll.app (DpAll.rev b) (.cons a .nil)
/-! ### how long their text is -/
theorem piled_sum : ∀ ts : List Str, piled ts = (ts.map fun t => t.length + 2).sum
  | [] => rfl
  | t :: ts => by rw [piled_cons, piled_sum ts, List.map_cons, List.sum_cons]
theorem tuple_len (ts : List Str) : (tupleText ts).length ≤ 3 + (ts.map fun t => t.length + 2).sum := by
  unfold tupleText
  rw [strLen_append, strLen_append]
  have e1 : (((if ts.length == 1 then ",)" else ")" : String) : Str)).length ≤ 2 := by split <;> decide
  have e2 : (("(" : String) : Str).length = 1 := rfl
  cases ts with
  | nil =>
    have : (Str.join ", " ([] : List Str)).length = 0 := rfl
    omega
  | cons x r =>
    have := join_length_add (x :: r) (by simp)
    rw [piled_sum] at this
    omega
theorem textFrom_le : ∀ (ts : List Str) (k : Nat) (acc : Str), (textFrom k acc ts).length ≤ acc.length + (ts.map fun t => t.length + 2).sum
  | [], _, acc => Nat.le_refl _
  | t :: r, k, acc => by
    have h := textFrom_le r (k + 1) (acc ++ (if k > 0 then ", " else "" : String) ++ t)
    have e : (acc ++ (if k > 0 then ", " else "" : String) ++ t).length ≤ acc.length + 2 + t.length := by
      rw [strLen_append, strLen_append]
      have : (((if k > 0 then ", " else "" : String) : Str)).length ≤ 2 := by split <;> decide
      omega
    show (textFrom (k + 1) (acc ++ (if k > 0 then ", " else "" : String) ++ t) r).length ≤ _
    rw [List.map_cons, List.sum_cons]
    omega
theorem list_len (ts : List Str) : (listText ts).length ≤ 2 + (ts.map fun t => t.length + 2).sum := by
  unfold listText
  rw [strLen_append]
  have := textFrom_le ts 0 "["
  have e1 : (("[" : String) : Str).length = 1 := rfl
  have e2 : (("]" : String) : Str).length = 1 := rfl
  omega
/-- plain data of tuples, no deeper than n, with a text of at most m signs -/
structure Nice (n m : Nat) (d : PyData) : Prop where
  lay : PySem.PyData.canLay0 d = true
  dep : d.depth ≤ n
  ot : onlyT d = true
  sh : d.showable = true
  nd : d.hasDict = false
  sz : d.shown.length ≤ m
theorem Nice.up {n m n' m' : Nat} {d : PyData} (h : Nice n m d) (a : n ≤ n') (b : m ≤ m') : Nice n' m' d := ⟨h.lay, Nat.le_trans h.dep a, h.ot, h.sh, h.nd, Nat.le_trans h.sz b⟩
theorem showAll_mem : ∀ {ds : List PyData}, (∀ d ∈ ds, PyData.showable d = true) → PyData.showableAll ds = true
  | [], _ => rfl
  | d :: ds, h => by
    show (PyData.showable d && PyData.showableAll ds) = true
    rw [h d (List.mem_cons_self ..), showAll_mem fun e he => h e (List.mem_cons_of_mem _ he)]
    rfl
theorem noDict_mem : ∀ {ds : List PyData}, (∀ d ∈ ds, PyData.hasDict d = false) → PyData.hasDictAll ds = false
  | [], _ => rfl
  | d :: ds, h => by
    show (PyData.hasDict d || PyData.hasDictAll ds) = false
    rw [h d (List.mem_cons_self ..), noDict_mem fun e he => h e (List.mem_cons_of_mem _ he)]
    rfl
theorem shownAll_map : ∀ ds : List PyData, PyData.shownAll ds = ds.map PyData.shown
  | [] => rfl
  | d :: ds => by
    show PyData.shown d :: PyData.shownAll ds = _
    rw [shownAll_map ds]
    rfl
theorem lay_all (xs : List PyData) : PySem.PyData.canLayAll0 xs = xs.all PySem.PyData.canLay0 := by
  induction xs with
  | nil => rfl
  | cons x xs ih =>
    show (PySem.PyData.canLay0 x && PySem.PyData.canLayAll0 xs) = _
    rw [ih, List.all_cons]
theorem deep_all {n : Nat} : ∀ {xs : List PyData}, (∀ x ∈ xs, x.depth ≤ n) → PySem.PyData.depthAll xs ≤ n
  | [], _ => Nat.zero_le _
  | x :: xs, h => by
    show max x.depth (PySem.PyData.depthAll xs) ≤ n
    have h1 := h x (List.mem_cons_self ..)
    have h2 := deep_all fun y hy => h y (List.mem_cons_of_mem _ hy)
    omega
/-- the parts one by one: no deeper than n, their texts together -/
inductive Nices (n : Nat) : Nat → List PyData → Prop
  | nil : Nices n 0 []
  | cons {m k : Nat} {d : PyData} {ds : List PyData} : Nice n m d → Nices n k ds → Nices n (m + 2 + k) (d :: ds)
theorem Nices.mem {n k : Nat} {ds : List PyData} (h : Nices n k ds) : ∀ d ∈ ds, ∃ m, Nice n m d := by
  induction h with
  | nil => intro d hd; cases hd
  | cons a _ ih =>
    intro e he
    rcases List.mem_cons.mp he with rfl | he
    · exact ⟨_, a⟩
    · exact ih e he
theorem Nices.sum {n k : Nat} {ds : List PyData} (h : Nices n k ds) : ((PyData.shownAll ds).map fun t => t.length + 2).sum ≤ k := by
  induction h with
  | nil => exact Nat.le_refl _
  | @cons m k d ds a _ ih =>
    show ((PyData.shown d :: PyData.shownAll ds).map fun t => t.length + 2).sum ≤ _
    rw [List.map_cons, List.sum_cons]
    have := a.sz
    omega
theorem Nices.app {n k l : Nat} {ds es : List PyData} (a : Nices n k ds) (b : Nices n l es) : Nices n (k + l) (ds ++ es) := by
  induction a with
  | nil => rw [Nat.zero_add]; exact b
  | @cons m k d ds h _ ih =>
    have := Nices.cons h ih
    rw [show m + 2 + k + l = m + 2 + (k + l) by omega]
    exact this
theorem Nices.all {n m : Nat} : ∀ {ds : List PyData}, (∀ d ∈ ds, Nice n m d) → Nices n (ds.length * (m + 2)) ds
  | [], _ => by rw [List.length_nil, Nat.zero_mul]; exact .nil
  | d :: ds, h => by
    have := Nices.cons (h d (List.mem_cons_self ..)) (Nices.all fun e he => h e (List.mem_cons_of_mem _ he))
    rw [List.length_cons, Nat.succ_mul, Nat.add_comm]
    exact this
theorem nice_tup {n k : Nat} {ds : List PyData} (h : Nices n k ds) : Nice (n + 1) (3 + k) (.tuple ds) := by
  have me := h.mem
  refine ⟨?_, ?_, ?_, ?_, ?_, ?_⟩
  · show PySem.PyData.canLayAll0 ds = true
    rw [lay_all, List.all_eq_true]
    exact fun d hd => (let ⟨_, z⟩ := me d hd; z.lay)
  · show PySem.PyData.depthAll ds + 1 ≤ n + 1
    have := deep_all (n := n) fun d hd => (let ⟨_, z⟩ := me d hd; z.dep)
    omega
  · exact onlyTs_mem fun d hd => (let ⟨_, z⟩ := me d hd; z.ot)
  · exact showAll_mem fun d hd => (let ⟨_, z⟩ := me d hd; z.sh)
  · exact noDict_mem fun d hd => (let ⟨_, z⟩ := me d hd; z.nd)
  · have := tuple_len (PyData.shownAll ds)
    have := h.sum
    show (tupleText (PyData.shownAll ds)).length ≤ _
    omega
/-- a list of such data -/
structure NiceL (ds : List PyData) : Prop where
  lay : PySem.PyData.canLay0 (.list ds) = true
  dep : (PyData.list ds).depth ≤ 40
  ot : onlyTs ds = true
  sh : (PyData.list ds).showable = true
  nd : (PyData.list ds).hasDict = false
  sz : (PyData.list ds).shown.length ≤ sizeLine
theorem niceL {n k : Nat} {ds : List PyData} (h : Nices n k ds) (hn : n < 40) (hk : k + 2 ≤ sizeLine) : NiceL ds := by
  have me := h.mem
  refine ⟨?_, ?_, ?_, ?_, ?_, ?_⟩
  · show PySem.PyData.canLayAll0 ds = true
    rw [lay_all, List.all_eq_true]
    exact fun d hd => (let ⟨_, z⟩ := me d hd; z.lay)
  · show PySem.PyData.depthAll ds + 1 ≤ 40
    have := deep_all (n := n) fun d hd => (let ⟨_, z⟩ := me d hd; z.dep)
    omega
  · exact onlyTs_mem fun d hd => (let ⟨_, z⟩ := me d hd; z.ot)
  · exact showAll_mem fun d hd => (let ⟨_, z⟩ := me d hd; z.sh)
  · exact noDict_mem fun d hd => (let ⟨_, z⟩ := me d hd; z.nd)
  · have := list_len (PyData.shownAll ds)
    have := h.sum
    show (listText (PyData.shownAll ds)).length ≤ _
    omega
theorem NiceL.shaped {ds : List PyData} (h : NiceL ds) : SeqAt.shaped (.list ds) = true := by
  unfold SeqAt.shaped
  rw [h.lay, decide_eq_true (Nat.le_trans h.dep (by decide))]
  rfl
theorem NiceL.refl {ds : List PyData} (h : NiceL ds) : PyData.eqv (.list ds) (.list ds) = true := SeqAt.eqv_refl _ h.lay
theorem nice_int {n : Nat} {i : Int} (h : i.natAbs < 2 ^ 100) : Nice n 101 (.int i) := by
  have lg : i.natAbs.log2 < 1920 := by
    by_cases z : i.natAbs = 0
    · rw [z]; decide
    · have := (Nat.log2_lt z).mpr h
      omega
  refine ⟨rfl, Nat.zero_le _, rfl, decide_eq_true lg, rfl, ?_⟩
  show (Str.ofString (toString i)).length ≤ 101
  have e := int_text_length_le (a := i) (k := 100) (by decide) (by
    by_cases z : i.natAbs = 0
    · rw [z]; decide
    · exact (Nat.log2_lt z).mpr h)
  rw [ofString_length]; exact e
theorem nice_lit {n m : Nat} {s : Str} (h : PySem.PyData.strOk s = true) (k : (reprText s).length ≤ m) : Nice n m (.str s) := ⟨h, Nat.zero_le _, rfl, rfl, rfl, k⟩
end SH

set_option Elab.async false
set_option linter.all false
set_option maxRecDepth 100000
namespace SH
open PySem L2
def topS (i : Nat) : Stmt := PySem.Challenge.pw_stealhall_k27_code_laid_out.main.body.getD i (.Pass ⟨0, 0, 0, 0⟩)
end SH

set_option Elab.async false
set_option linter.all false
set_option maxRecDepth 100000
namespace SH
open PySem L2
abbrev sBag : Stmt := topS 5
abbrev sTake : Stmt := topS 6
theorem scBag : FnScope ["_law_script", "_law_k", "_law_cell"] ["_law_script", "_law_k"] (defScope sBag) := ⟨rfl, rfl, rfl, by decide +kernel, rfl, by decide +kernel, by decide +kernel⟩
theorem scTake : FnScope ["_law_bag_here", "_law_many", "_law_digit", "_law_primes", "_law_step", "_law_base", "_law_found", "_law_prime"] ["_law_bag_here", "_law_many"] (defScope sTake) := ⟨rfl, rfl, rfl, by decide +kernel, rfl, by decide +kernel, by decide +kernel⟩
/-- the names of the built-ins are free -/
structure Bi (mg : Str → Option Value) : Prop where
  len : mg "len" = none
  abs : mg "abs" = none
  int : mg "int" = none
  str : mg "str" = none
  range : mg "range" = none
  max : mg "max" = none
  min : mg "min" = none
  isinstance : mg "isinstance" = none
  all : mg "all" = none
/-- a def that can be called -/
structure Fk (P : Program) (w : World) (K : PySem.W.Frag) (mg : Str → Option Value) (base : Heap) (lv : Nat) (x : Str) (f : Addr) (fd : FuncData) (ps : List Str) (sp : Sp) : Prop where
  G : FnOk P w K mg base CX0 lv f fd ps sp
  m : mg x = some (.ref f)
  k : PySem.W.keepIn K (.ref f) = true
  b : Binds K fd ps []
/-- a bag from which n can be taken -/
def Bag (H : Hp) (b : Addr) (n : Nat) : Prop := ∃ x y z : Int, H b = some (.lst [.int x, .int y, .int z]) ∧ 0 ≤ x ∧ 0 ≤ y ∧ y ≤ 4294967296 ∧ 0 ≤ z ∧ z + n ≤ 16777216
theorem Bag.less {H : Hp} {b : Addr} {n m : Nat} (h : Bag H b n) (hm : m ≤ n) : Bag H b m := by
  obtain ⟨x, y, z, e, h1, h2, h3, h4, h5⟩ := h
  exact ⟨x, y, z, e, h1, h2, h3, h4, by omega⟩
theorem Bag.same {H H' : Hp} {b : Addr} {n : Nat} (h : Bag H b n) (s : Same H H') : Bag H' b n := by
  obtain ⟨x, y, z, e, r⟩ := h
  exact ⟨x, y, z, s _ _ e, r⟩
theorem Bag.lst {H : Hp} {b : Addr} {n : Nat} (h : Bag H b n) : ∃ ys, H b = some (.lst ys) := by
  obtain ⟨x, y, z, e, _⟩ := h
  exact ⟨_, e⟩
def spBag (K : PySem.W.Frag) : Sp := fun vs H Q _ => ∃ (a : Addr) (ns : List Int) (k : Int), vs = [.ref a, .int k] ∧ SqL K H a (ns.map V.int) ∧ 0 ≤ k ∧ k ≤ 63 ∧
  ∀ b H', Same H H' → H b = none → Bag H' b 16000000 → Q (.ref b) H'
def spTake : Sp := fun vs H Q _ => ∃ (b : Addr) (m : Int) (n : Nat), vs = [.ref b, .int m] ∧ 0 < m ∧ m < 1073741824 ∧ Bag H b (n + 1) ∧
  ∀ (d : Int) (H' : Hp), 0 ≤ d → d < m → Bag H' b n → But b H H' → Q (.int d) H'
theorem bit01 (b : Bool) : -(2 ^ 64) < (if b = true then (1 : Int) else 0) ∧ (if b = true then (1 : Int) else 0) < 2 ^ 64 := by cases b <;> decide
theorem bit0 (b : Bool) : 0 ≤ (if b = true then (1 : Int) else 0) := by cases b <;> decide
section
variable {P : Program} {w : World} {K : PySem.W.Frag} {mg : Str → Option Value} {base : Heap}
theorem ok_bag {f : Addr} {fd : FuncData} (F : Fun K "_law_bag" "_law_bag" sBag f fd) (T : Bi mg) : FnOk P w K mg base CX0 1 f fd ["_law_script", "_law_k"] (spBag K) := by
  refine F.ok scBag (fun vs H Q E h => ?_) (fun cdv A outer s H vs Q E hr h => ?_)
  · obtain ⟨a, ns, k, rfl, _⟩ := h
    rfl
  obtain ⟨a, ns, k, rfl, hS, h0, h1, q⟩ := h
  refine ⟨_, (pss_cons (ps_set (i := 2) scBag.nd rfl (Or.inl rfl) (pe_op op_add (pe_op op_mul pe_int (pv 1)) pe_int))
    (C8.pss_cut (ps_if (pt_cmpR op_lt (pv 1) (pe_callB call_len_seq (by rfl) T.len (by decide +kernel) (pa_cons (pv 0) pa_nil)) (nomark _))
      (pss_one (ps_set (i := 2) scBag.nd rfl (Or.inl rfl) (pe_ix ix_list (pv 0) (pv 1) (fun _ _ => rfl))))
      pss_nil)
    (pss_one (ps_ret (pe_lst (pa_cons (pe_op op_mul (pe_callB call_abs (by rfl) T.abs (by decide +kernel) (pa_cons (pv 2) pa_nil)) (pe_callTy call_int1 (by rfl) T.int (by decide +kernel) (pa_cons (pe_cmpR op_ge (pe_callB call_abs (by rfl) T.abs (by decide +kernel) (pa_cons (pv 2) pa_nil)) (pe_op op_pow pe_int pe_int) (nomark _)) pa_nil))) (pa_cons (pe_op op_add (pe_op op_mod (pv 2) pe_int) (pe_op op_mul pe_int (pv 1))) (pa_cons pe_int pa_nil)))))))), ?_⟩
  have hl : (ns.map V.int).length = ns.length := List.length_map _
  refine ⟨_, rfl, _, _, rfl, rfl, .inl ⟨by decide, by decide⟩, _, _, rfl, rfl, ?_⟩
  refine ⟨fun σ' H' => ∃ c : Int, σ' = [some (.ref a), some (.int k), some (.int c)] ∧ H' = H, ?_, ?_⟩
  · refine ⟨_, rfl, _, rfl, a, _, rfl, .inl hS, _, _, rfl, rfl, _, rfl, ?_⟩
    refine ite2 (fun c => ?_) (fun c => ?_)
    · have c' := of_decide_eq_true c
      rw [hl] at c'
      have hk : k.toNat < ns.length := by omega
      refine ⟨_, rfl, _, rfl, a, _, k, .int ns[k.toNat], rfl, rfl, hS, ?_, ?_⟩
      · have q : atI (ns.map V.int) ((k.toNat : Nat) : Int) = some (.int ns[k.toNat]) := atI_nat (by rw [List.getElem?_map, List.getElem?_eq_getElem hk] <;> rfl)
        rwa [show ((k.toNat : Nat) : Int) = k by omega] at q
      · exact ⟨_, rfl, rfl⟩
    · exact ⟨_, rfl, rfl⟩
  · rintro σ' H' ⟨c, rfl, rfl⟩
    refine ⟨_, rfl, _, rfl, _, rfl, _, rfl, _, _, rfl, rfl, ⟨by decide, by decide, by decide⟩, _, _, rfl, rfl, .inr ⟨_, rfl, ?_⟩⟩
    refine ⟨_, _, rfl, rfl, .inr ?_, ?_⟩
    · exact bit01 _
    refine ⟨_, rfl, _, _, rfl, rfl, (by show (0 : Int) < 2147483647; decide), _, rfl, _, _, rfl, rfl, .inl ⟨by decide, by decide⟩, _, _, rfl, rfl, ?_⟩
    refine ⟨by show 3 ≤ sizeLine; decide, fun b hb => ?_⟩
    refine q b _ (same_new hb _) hb ⟨_, _, _, upd_same, ?_, ?_, ?_, Int.le_refl 0, by decide⟩
    · show 0 ≤ (if c < 0 then -c else c) * (if decide ((10 : Int) ^ 18 ≤ (if c < 0 then -c else c)) = true then (1 : Int) else 0)
      refine Int.mul_nonneg ?_ ?_
      · split <;> omega
      · exact bit0 _
    · have := Int.emod_nonneg c (show (2147483647 : Int) ≠ 0 by decide)
      show 0 ≤ c % 2147483647 + 37 * k
      omega
    · have := Int.emod_lt_of_pos c (show (0 : Int) < 2147483647 by decide)
      show c % 2147483647 + 37 * k ≤ 4294967296
      omega
theorem pow3 {a : Int} (h0 : 0 ≤ a) (h : a < 4611686018427387904) : CPow a 3 := ⟨by decide, by decide, by omega⟩
def primes : List Int := [2147483647, 2147483629, 2147483587, 2147483579, 2147483563, 2147483549, 2147483543, 2147483497, 2147483489, 2147483477, 2147483423, 2147483399]
theorem primes_at {z : Int} : ∃ p : Int, atI (primes.map V.int) (z % 12) = some (.int p) ∧ 0 < p ∧ p < 2147483648 := by
  have h0 := Int.emod_nonneg z (show (12 : Int) ≠ 0 by decide)
  have h1 := Int.emod_lt_of_pos z (show (0 : Int) < 12 by decide)
  have hk : (z % 12).toNat < primes.length := by show (z % 12).toNat < 12; omega
  have q : atI (primes.map V.int) (((z % 12).toNat : Nat) : Int) = some (.int primes[(z % 12).toNat]) := atI_nat (by rw [List.getElem?_map, List.getElem?_eq_getElem hk] <;> rfl)
  rw [show (((z % 12).toNat : Nat) : Int) = z % 12 by omega] at q
  have all : ∀ p ∈ primes, 0 < p ∧ p < 2147483648 := by decide
  exact ⟨_, q, all _ (List.getElem_mem hk)⟩
theorem base_le {y z : Int} (h2 : 0 ≤ y) (h3 : y ≤ 4294967296) (h4 : 0 ≤ z) (h5 : z ≤ 16777217) : 0 ≤ y * (2 * z + 1) + 7919 * z * z + 29 ∧ y * (2 * z + 1) + 7919 * z * z + 29 < 4611686018427387904 := by
  have a1 : y * (2 * z + 1) ≤ 4294967296 * 67108864 := Int.mul_le_mul h3 (by omega) (by omega) (by omega)
  have a2 : 0 ≤ y * (2 * z + 1) := Int.mul_nonneg h2 (by omega)
  have b1 : 7919 * z * z ≤ 132858781423 * 16777217 := Int.mul_le_mul (by omega) h5 h4 (by omega)
  have b2 : 0 ≤ 7919 * z * z := Int.mul_nonneg (by omega) h4
  omega
theorem ok_take {f : Addr} {fd : FuncData} (F : Fun K "_law_take" "_law_take" sTake f fd) : FnOk P w K mg base CX0 1 f fd ["_law_bag_here", "_law_many"] spTake := by
  refine F.ok scTake (fun vs H Q E h => ?_) (fun cdv A outer s H vs Q E hr h => ?_)
  · obtain ⟨b, m, n, rfl, _⟩ := h
    rfl
  obtain ⟨b, m, n, rfl, hm0, hm1, ⟨x, y, z, hb, hx, hy, hy1, hz, hz1⟩, q⟩ := h
  refine ⟨_, (pss_cons (ps_if (pt_cmpR op_gt (pe_ix ix_list (pv 0) pe_int (fun _ _ => rfl)) pe_int (nomark _))
      (pss_cons (ps_set (i := 2) scTake.nd rfl (Or.inl rfl) (pe_op op_mod (pe_ix ix_list (pv 0) pe_int (fun _ _ => rfl)) (pv 1)))
    (pss_cons (ps_asg (pe_op op_fdiv (pe_ix ix_list (pv 0) pe_int (fun _ _ => rfl)) (pv 1)) (pg_sub (pv 0) pe_int set_list))
    (pss_one (ps_ret (pv 2)))))
      pss_nil)
    (pss_cons (ps_set (i := 3) scTake.nd rfl (Or.inl rfl) (pe_tup (pa_cons pe_int (pa_cons pe_int (pa_cons pe_int (pa_cons pe_int (pa_cons pe_int (pa_cons pe_int (pa_cons pe_int (pa_cons pe_int (pa_cons pe_int (pa_cons pe_int (pa_cons pe_int (pa_cons pe_int pa_nil))))))))))))))
    (pss_cons (ps_asg (pe_op op_add (pe_ix ix_list (pv 0) pe_int (fun _ _ => rfl)) pe_int) (pg_sub (pv 0) pe_int set_list))
    (pss_cons (ps_set (i := 4) scTake.nd rfl (Or.inl rfl) (pe_ix ix_list (pv 0) pe_int (fun _ _ => rfl)))
    (pss_cons (ps_set (i := 5) scTake.nd rfl (Or.inl rfl) (pe_op op_add (pe_op op_add (pe_op op_mul (pe_ix ix_list (pv 0) pe_int (fun _ _ => rfl)) (pe_op op_add (pe_op op_mul pe_int (pv 4)) pe_int)) (pe_op op_mul (pe_op op_mul pe_int (pv 4)) (pv 4))) pe_int))
    (pss_cons (ps_set (i := 6) scTake.nd rfl (Or.inl rfl) (pe_op op_mod (pe_op op_pow (pv 5) pe_int) (pe_ix ix_tup (pv 3) (pe_op op_mod (pv 4) pe_int) (fun _ _ => rfl))))
    (pss_cons (ps_set (i := 7) scTake.nd rfl (Or.inl rfl) (pe_ix ix_tup (pv 3) (pe_op op_mod (pe_op op_add (pv 4) pe_int) pe_int) (fun _ _ => rfl)))
    (pss_one (ps_ret (pe_op op_mod (pe_op op_fdiv (pe_op op_mod (pe_op op_mul (pv 6) (pe_op op_add (pe_op op_fdiv (pv 6) pe_int) pe_int)) (pv 7)) pe_int) (pv 1))))))))))), ?_⟩
  have i0 : ∀ {u v t : V}, atI [u, v, t] 0 = some u := fun {u v t} => atI_nat (j := 0) rfl
  have i1 : ∀ {u v t : V}, atI [u, v, t] 1 = some v := fun {u v t} => atI_nat (j := 1) rfl
  have i2 : ∀ {u v t : V}, atI [u, v, t] 2 = some t := fun {u v t} => atI_nat (j := 2) rfl
  refine ⟨_, rfl, b, _, 0, _, rfl, rfl, SqL.of hb, i0, _, _, rfl, rfl, _, rfl, ?_⟩
  refine ite2 (fun c => ?_) (fun c => ?_)
  · refine ⟨_, rfl, b, _, 0, _, rfl, rfl, SqL.of hb, i0, _, rfl, _, _, rfl, rfl, hm0, ?_⟩
    refine ⟨_, rfl, b, _, 0, _, rfl, rfl, SqL.of hb, i0, _, rfl, _, _, rfl, rfl, ⟨hm0, hm1⟩, ?_⟩
    refine ⟨_, rfl, b, _, 0, 0, rfl, rfl, hb, rfl, ?_⟩
    refine ⟨_, rfl, ?_⟩
    refine q _ _ (Int.emod_nonneg x (by omega)) (Int.emod_lt_of_pos x hm0) ⟨_, y, z, upd_same, Int.ediv_nonneg hx (by omega), hy, hy1, hz, by omega⟩ fun a o na e => ?_
    rw [upd_ne na]
    exact e
  · refine ⟨by show 12 ≤ sizeLine; decide, fun t ht => ?_⟩
    have nt : b ≠ t := ne_of_none hb ht
    have hb1 : (upd H t (.tup (primes.map V.int))) b = some (.lst [.int x, .int y, .int z]) := by rw [upd_ne nt]; exact hb
    refine ⟨_, rfl, b, _, 2, _, rfl, rfl, SqL.of hb1, i2, _, _, rfl, rfl, ?_⟩
    refine ⟨_, rfl, b, _, 2, 2, rfl, rfl, hb1, rfl, ?_⟩
    have hb2 : (upd (upd H t (.tup (primes.map V.int))) b (.lst [.int x, .int y, .int (z + 1)])) b = some (.lst [.int x, .int y, .int (z + 1)]) := upd_same
    have ht2 : (upd (upd H t (.tup (primes.map V.int))) b (.lst [.int x, .int y, .int (z + 1)])) t = some (.tup (primes.map V.int)) := by rw [upd_ne (Ne.symm nt), upd_same]
    refine ⟨_, rfl, b, _, 2, _, rfl, rfl, SqL.of hb2, i2, ?_⟩
    obtain ⟨c0, c1⟩ := base_le (y := y) (z := z + 1) hy hy1 (by omega) (by omega)
    refine ⟨_, rfl, b, _, 1, _, rfl, rfl, SqL.of hb2, i1, _, rfl, _, _, rfl, rfl, .inl ⟨by decide, by decide⟩, _, _, rfl, rfl, _, _, rfl, rfl, .inl ⟨by omega, by omega⟩, ?_⟩
    refine ⟨_, rfl, _, _, rfl, rfl, .inl ⟨by decide, by decide⟩, _, rfl, _, _, rfl, rfl, .inl ⟨by omega, by omega⟩, _, _, rfl, rfl, _, _, rfl, rfl, ?_⟩
    obtain ⟨p1, e1, p1a, p1b⟩ := primes_at (z := z + 1)
    obtain ⟨p2, e2, p2a, p2b⟩ := primes_at (z := z + 1 + 5)
    refine ⟨_, rfl, _, _, rfl, rfl, pow3 c0 c1, _, rfl, _, rfl, _, _, rfl, rfl, (by show (0 : Int) < 12; decide), t, _, _, _, rfl, rfl, SqT.of ht2, e1, _, _, rfl, rfl, p1a, ?_⟩
    refine ⟨_, rfl, _, rfl, _, _, rfl, rfl, _, _, rfl, rfl, (by show (0 : Int) < 12; decide), t, _, _, _, rfl, rfl, SqT.of ht2, e2, ?_⟩
    have f0 := Int.emod_nonneg ((y * (2 * (z + 1) + 1) + 7919 * (z + 1) * (z + 1) + 29) ^ 3) (show p1 ≠ 0 by omega)
    have f1 := Int.emod_lt_of_pos ((y * (2 * (z + 1) + 1) + 7919 * (z + 1) * (z + 1) + 29) ^ 3) p1a
    refine ⟨_, rfl, _, rfl, _, _, rfl, rfl, ⟨by decide, by decide⟩, _, _, rfl, rfl, _, _, rfl, rfl, .inl ⟨Int.lt_of_lt_of_le (by decide) f0, Int.lt_trans f1 (by omega)⟩, _, rfl, _, _, rfl, rfl, p2a, _, _, rfl, rfl, ⟨by decide, by decide⟩, _, rfl, _, _, rfl, rfl, hm0, ?_⟩
    refine q _ _ (Int.emod_nonneg _ (by omega)) (Int.emod_lt_of_pos _ hm0) ⟨x, y, z + 1, hb2, hx, hy, hy1, by omega, by omega⟩ fun a o na e => ?_
    rw [upd_ne na, upd_ne (ne_of_none e ht)]
    exact e
end
end SH

set_option Elab.async false
set_option linter.all false
set_option maxRecDepth 100000
namespace SH
open PySem L2
abbrev sKept : Stmt := topS 7
abbrev sNames : Stmt := topS 8
abbrev sNumber : Stmt := topS 9
theorem scKept : FnScope [] [] (defScope sKept) := ⟨rfl, rfl, rfl, by decide +kernel, rfl, by decide +kernel, by decide +kernel⟩
theorem scNames : FnScope ["_law_bag_here", "_law_many", "_law_letters", "_law_found", "_law_k", "_law_name", "_law_way", "_law_some", "_law_j", "_law_letter", "_law_one"] ["_law_bag_here", "_law_many"] (defScope sNames) := ⟨rfl, rfl, rfl, by decide +kernel, rfl, by decide +kernel, by decide +kernel⟩
theorem scNumber : FnScope ["_law_bag_here", "_law_way", "_law_found", "_law_k"] ["_law_bag_here"] (defScope sNumber) := ⟨rfl, rfl, rfl, by decide +kernel, rfl, by decide +kernel, by decide +kernel⟩
/-! ### mathematics -/
def kept : List Str := ["work", "room", "go", "call", "wait", "if", "else", "end", "give", "fail"]
def letters : Str := "abcdefghijklmnopqrstuvwxyz"
theorem menu {xs : List V} {i : Int} (h0 : 0 ≤ i) (h1 : i < xs.length) : ∃ v, atI xs i = some v ∧ v ∈ xs := by
  have hk : i.toNat < xs.length := by omega
  refine ⟨xs[i.toNat], ?_, List.getElem_mem hk⟩
  have q : atI xs ((i.toNat : Nat) : Int) = some xs[i.toNat] := atI_nat (List.getElem?_eq_getElem hk)
  rwa [show ((i.toNat : Nat) : Int) = i by omega] at q
theorem menuI {ns : List Int} {i : Int} (h0 : 0 ≤ i) (h1 : i < ns.length) : ∃ k, atI (ns.map V.int) i = some (.int k) ∧ k ∈ ns := by
  obtain ⟨v, e, m⟩ := menu (xs := ns.map V.int) h0 (by rw [List.length_map]; exact h1)
  obtain ⟨k, hk, rfl⟩ := List.mem_map.mp m
  exact ⟨k, e, hk⟩
theorem menuS {ns : List Str} {i : Int} (h0 : 0 ≤ i) (h1 : i < ns.length) : ∃ k, atI (ns.map V.str) i = some (.str k) ∧ k ∈ ns := by
  obtain ⟨v, e, m⟩ := menu (xs := ns.map V.str) h0 (by rw [List.length_map]; exact h1)
  obtain ⟨k, hk, rfl⟩ := List.mem_map.mp m
  exact ⟨k, e, hk⟩
theorem log_ok {i : Int} (h0 : 0 ≤ i) (h1 : i < 1000000 ^ 5) : i.natAbs.log2 < 1920 := by
  by_cases z : i.natAbs = 0
  · rw [z]; decide
  · rw [Nat.log2_lt z]
    have : i.natAbs < 2 ^ 100 := by
      have e : (1000000 : Int) ^ 5 = 1000000000000000000000000000000 := by decide
      have e2 : (2 : Nat) ^ 100 = 1267650600228229401496703205376 := by decide
      rw [e] at h1
      rw [e2]
      omega
    exact Nat.lt_trans this (Nat.pow_lt_pow_right (by decide) (by decide))
def codes (s : Str) : List Nat := s.cps.toList
theorem codes_len (s : Str) : (codes s).length = s.length := Array.length_toList
theorem codes_app (a b : Str) : codes (a ++ b) = codes a ++ codes b := by
  show (a.cps ++ b.cps).toList = _
  rw [Array.toList_append]
  all_goals rfl
theorem codes_inj {a b : Str} (h : codes a = codes b) : a = b := by
  cases a with | mk x =>
  cases b with | mk y =>
  have : x = y := Array.toList_inj.mp h
  rw [this]
/-- a text of one to eight letters -/
def nmOk (s : Str) : Prop := 1 ≤ (codes s).length ∧ (codes s).length ≤ 8 ∧ ∀ c ∈ codes s, 97 ≤ c ∧ c ≤ 122
structure NmsOk (l : List Str) : Prop where
  each : ∀ s ∈ l, nmOk s ∧ s ∉ kept
  nd : l.Nodup
theorem NmsOk.snoc {l : List Str} {s : Str} (h : NmsOk l) (a : nmOk s) (b : s ∉ l ++ kept) : NmsOk (l ++ [s]) := by
  refine ⟨fun x hx => ?_, ?_⟩
  · rcases List.mem_append.mp hx with hx | hx
    · exact h.each x hx
    · rw [List.mem_singleton.mp hx]
      exact ⟨a, fun q => b (List.mem_append_right _ q)⟩
  · exact nd_snoc h.nd fun q => b (List.mem_append_left _ q)
theorem join_codes : ∀ l : List Str, codes (PySem.Txt.join (PySem.Str.ofString "") l) = (l.map codes).flatten := by
  have step : ∀ l : List Str, codes (PySem.Str.join (PySem.Str.ofString "") l) = (l.map codes).flatten := by
    intro l
    induction l with
    | nil => rfl
    | cons a r ih =>
      cases r with
      | nil => show codes a = codes a ++ []; rw [List.append_nil]
      | cons b t =>
        show codes (a ++ PySem.Str.ofString "" ++ PySem.Str.join (PySem.Str.ofString "") (b :: t)) = codes a ++ ((b :: t).map codes).flatten
        rw [codes_app, codes_app, ih]
        have z : codes (PySem.Str.ofString "") = [] := by decide +kernel
        rw [z, List.append_nil]
  intro l
  show codes (Builtin.Str.glued (PySem.Str.ofString "") l) = _
  rw [StrLaws.glued_eq_join]
  exact step l
theorem pig : ∀ (xs L : List Str), xs.Nodup → L.length < xs.length → ∃ x ∈ xs, x ∉ L
  | [], L, _, h => absurd h (Nat.not_lt_zero _)
  | x :: r, L, hn, h => by
    obtain ⟨h1, h2⟩ := List.nodup_cons.mp hn
    by_cases hx : x ∈ L
    · have hl := List.length_erase_of_mem hx
      rw [List.length_cons] at h
      obtain ⟨y, hy, hyL⟩ := pig r (L.erase x) h2 (by have := List.length_pos_of_mem hx; omega)
      refine ⟨y, List.mem_cons_of_mem _ hy, fun q => hyL ?_⟩
      refine (List.mem_erase_of_ne ?_).mpr q
      intro e
      rw [e] at hy
      exact h1 hy
    · exact ⟨x, List.mem_cons_self, hx⟩
def one (c : Nat) : Str := ⟨#[c]⟩
theorem codes_one (c : Nat) : codes (one c) = [c] := rfl
/-- the twenty-six of a name: another first letter -/
def some26 (s : Str) : List Str := (codes letters).map fun c => one c ++ cutS s (some 1) none
theorem cut1 (s : Str) : codes (cutS s (some 1) none) = (codes s).drop 1 := by
  unfold cutS
  show (((s.cps.toList.drop (HT.sIx s.length 0 (some 1))).take (HT.sIx s.length s.length none - HT.sIx s.length 0 (some 1))).toArray).toList = _
  rw [List.toList_toArray, show HT.sIx s.length 0 (some 1) = min 1 s.length from HT.sIx_nat s.length 0 1, HT.sIx_none]
  show (List.drop (min 1 s.length) (codes s)).take (s.length - min 1 s.length) = (codes s).drop 1
  rw [← codes_len]
  cases hc : codes s with
  | nil => rfl
  | cons x r =>
    rw [show min 1 (x :: r).length = 1 by rw [List.length_cons]; omega]
    show r.take ((x :: r).length - 1) = r
    rw [List.length_cons, Nat.add_sub_cancel, List.take_length]
theorem cutN {s : Str} {n : Nat} : codes (cutS s none (some (n : Int))) = (codes s).take n := by
  unfold cutS
  show (((s.cps.toList.drop (HT.sIx s.length 0 none)).take (HT.sIx s.length s.length (some (n : Int)) - HT.sIx s.length 0 none)).toArray).toList = _
  rw [List.toList_toArray, HT.sIx_nat, HT.sIx_none]
  show (List.drop 0 (codes s)).take (min n s.length - 0) = (codes s).take n
  rw [List.drop_zero, Nat.sub_zero, ← codes_len]
  by_cases h : n ≤ (codes s).length
  · rw [Nat.min_eq_left h]
  · rw [Nat.min_eq_right (by omega), List.take_length, List.take_of_length_le (by omega)]
theorem some26_nd (s : Str) : (some26 s).Nodup := by
  have base : (codes letters).Nodup := by decide +kernel
  unfold some26
  refine List.Pairwise.map _ ?_ base
  intro a b hab e
  have q := congrArg codes e
  rw [codes_app, codes_app, codes_one, codes_one] at q
  exact hab (List.cons.inj q).1
theorem some26_len (s : Str) : (some26 s).length = 26 := by
  unfold some26
  rw [List.length_map]
  decide +kernel
theorem letters_ok : ∀ c ∈ codes letters, 97 ≤ c ∧ c ≤ 122 := by decide +kernel
theorem kept_ok : ∀ s ∈ kept, ∀ c ∈ codes s, 97 ≤ c ∧ c ≤ 122 := by decide +kernel
theorem kept_pos : ∀ s ∈ kept, 1 ≤ (codes s).length ∧ (codes s).length ≤ 4 := by decide +kernel
theorem some26_ok {s t : Str} (h : nmOk s) (ht : t ∈ some26 s) : nmOk t := by
  unfold some26 at ht
  obtain ⟨c, hc, rfl⟩ := List.mem_map.mp ht
  obtain ⟨h1, h2, h3⟩ := h
  have e : codes (one c ++ cutS s (some 1) none) = c :: (codes s).drop 1 := by rw [codes_app, codes_one, cut1]; rfl
  refine ⟨?_, ?_, ?_⟩
  · rw [e, List.length_cons]; omega
  · rw [e, List.length_cons, List.length_drop]; omega
  · rw [e]
    intro x hx
    rcases List.mem_cons.mp hx with rfl | hx
    · exact letters_ok _ hc
    · exact h3 _ (List.mem_of_mem_drop hx)
theorem inV_str {x : Str} : ∀ {l : List Str}, inV (.str x) (l.map V.str) = decide (x ∈ l)
  | [] => rfl
  | y :: r => by
    show (eqV (.str y) (.str x) || inV (.str x) (r.map V.str)) = _
    rw [inV_str (l := r)]
    show ((y == x) || decide (x ∈ r)) = _
    by_cases e : x = y
    · subst e; simp
    · have e' : (y == x) = false := by simpa using fun h => e h.symm
      rw [e', Bool.false_or]
      simp [e]
theorem flat_strs (l : List Str) : (l.map V.str).all flatV = true := by
  rw [List.all_eq_true]
  intro x hx
  obtain ⟨s, _, rfl⟩ := List.mem_map.mp hx
  rfl
def spKept : Sp := fun vs H Q _ => vs = [] ∧ ∀ p, H p = none → Q (.ref p) (upd H p (.lst (kept.map V.str)))
def spNumber : Sp := fun vs H Q _ => ∃ (b : Addr) (n : Nat), vs = [.ref b] ∧ Bag H b (n + 8) ∧
  ∀ (i : Int) (H' : Hp), 0 ≤ i → i < 1000000 ^ 5 → Bag H' b n → But b H H' → Q (.int i) H'
def spNames : Sp := fun vs H Q _ => ∃ (b : Addr) (m n : Nat), vs = [.ref b, .int m] ∧ m ≤ 12 ∧ Bag H b (n + 16 * m) ∧
  ∀ (p : Addr) (nm : List Str) (H' : Hp), H p = none → H' p = some (.lst (nm.map V.str)) → nm.length = m → NmsOk nm → Bag H' b n → But b H H' → Q (.ref p) H'
section
variable {P : Program} {w : World} {K : PySem.W.Frag} {mg : Str → Option Value} {base : Heap}
theorem ok_kept {f : Addr} {fd : FuncData} (F : Fun K "_law_kept" "_law_kept" sKept f fd) : FnOk P w K mg base CX0 1 f fd [] spKept := by
  refine F.ok scKept (fun vs H Q E h => ?_) (fun cdv A outer s H vs Q E hr h => ?_)
  · obtain ⟨rfl, _⟩ := h
    rfl
  obtain ⟨rfl, q⟩ := h
  refine ⟨_, (pss_one (ps_ret (pe_lst (pa_cons pe_str (pa_cons pe_str (pa_cons pe_str (pa_cons pe_str (pa_cons pe_str (pa_cons pe_str (pa_cons pe_str (pa_cons pe_str (pa_cons pe_str (pa_cons pe_str pa_nil))))))))))))), ?_⟩
  exact ⟨by show 10 ≤ sizeLine; decide, fun p hp => q p hp⟩
theorem But.new {b : Addr} {H : Hp} {p : Addr} (h : H p = none) (o : HO) : But b H (upd H p o) := .of (same_new h o)
theorem ok_number {f t : Addr} {fd td : FuncData} (F : Fun K "_law_number" "_law_number" sNumber f fd) (TK : Fk P w K mg base 1 "_law_take" t td ["_law_bag_here", "_law_many"] spTake) (T : Bi mg) :
    FnOk P w K mg base CX0 2 f fd ["_law_bag_here"] spNumber := by
  refine F.ok scNumber (fun vs H Q E h => ?_) (fun cdv A outer s H vs Q E hr h => ?_)
  · obtain ⟨b, n, rfl, _⟩ := h
    rfl
  obtain ⟨b, n, rfl, hB, q⟩ := h
  refine ⟨_, (pss_cons (ps_set (i := 1) scNumber.nd rfl (Or.inl rfl) (pe_call TK.G (hr.mono (by omega)) (by rfl) TK.m TK.k TK.b .nil pass0 (pa_cons (pv 0) (pa_cons pe_int pa_nil))))
    (pss_cons (ps_if (pt_cmpR op_lt (pv 1) pe_int (nomark _))
      (pss_one (ps_ret (pe_call TK.G (hr.mono (by omega)) (by rfl) TK.m TK.k TK.b .nil pass0 (pa_cons (pv 0) (pa_cons (pe_ix ix_list (pe_lst (pa_cons pe_int (pa_cons pe_int pa_nil))) (pv 1) (fun _ _ => rfl)) pa_nil)))))
      pss_nil)
    (pss_cons (ps_set (i := 2) scNumber.nd rfl (Or.inl rfl) pe_int)
    (pss_cons (ps_for PassesOwn.never rfl (pi_range1 (by rfl) T.range (pa_cons (pe_ix ix_list (pe_lst (pa_cons pe_int (pa_cons pe_int pa_nil))) (pe_op op_sub (pv 1) pe_int) (fun _ _ => rfl)) pa_nil)) (pg_name (i := 3) scNumber.nd rfl (.inl rfl))
      (pss_one (ps_set (i := 2) scNumber.nd rfl (Or.inl rfl) (pe_op op_add (pe_op op_mul (pv 2) (pe_op op_pow pe_int pe_int)) (pe_call TK.G (hr.mono (by omega)) (by rfl) TK.m TK.k TK.b .nil pass0 (pa_cons (pv 0) (pa_cons (pe_op op_pow pe_int pe_int) pa_nil)))))))
    (pss_one (ps_ret (pv 2))))))), ?_⟩
  refine ⟨_, rfl, b, 4, n + 7, rfl, by decide, by decide, hB, fun d1 H1 a1 a2 B1 U1 => ?_⟩
  refine ⟨_, rfl, _, _, rfl, rfl, _, rfl, ?_⟩
  refine ite2 (fun c => ?_) (fun c => ?_)
  · have c' : d1 < 2 := of_decide_eq_true c
    obtain ⟨v, e, hv⟩ := menuI (ns := [4, 30]) a1 (by show d1 < 2; exact c')
    have hv' : v = 4 ∨ v = 30 := by simpa using hv
    refine ⟨_, rfl, (by show 2 ≤ sizeLine; decide), fun l hl => ?_⟩
    refine ⟨_, rfl, l, _, _, _, rfl, rfl, SqL.of upd_same, e, b, v, n + 6, rfl, by omega, by omega, B1.same (same_new hl _), fun d2 H2 b1 b2 B2 U2 => ?_⟩
    refine q _ _ b1 ?_ (B2.less (by omega)) (U1.trans ((But.new hl _).trans U2))
    have e : (1000000 : Int) ^ 5 = 1000000000000000000000000000000 := by decide
    rw [e]
    omega
  · have c' : ¬ d1 < 2 := of_decide_eq_false (Bool.eq_false_iff.mpr c)
    obtain ⟨v, e, hv⟩ := menuI (ns := [2, 5]) (i := d1 - 2) (by omega) (by show d1 - 2 < 2; omega)
    have hv' : v = 2 ∨ v = 5 := by simpa using hv
    refine ⟨(by show 2 ≤ sizeLine; decide), fun l hl => ?_⟩
    refine ⟨_, rfl, _, _, rfl, rfl, l, _, _, _, rfl, rfl, SqL.of upd_same, e, v, rfl, by omega, by omega, ?_⟩
    refine for_range (lo := 0) (n := v.toNat) (fun i σ H' => ∃ (c : Int) (y : Option V), σ = [some (.ref b), some (.int d1), some (.int c), y] ∧ 0 ≤ c ∧ c < 1000000 ^ i ∧ Bag H' b (n + 5 - i) ∧ But b H H') ?_ ?_ ?_
    · exact ⟨0, none, rfl, Int.le_refl _, by decide, (B1.same (same_new hl _)).less (by omega), U1.trans (But.new hl _)⟩
    · rintro i σ H2 hi ⟨c, y, rfl, c0, c1, B2, U2⟩
      refine ⟨_, rfl, _, _, rfl, rfl, ⟨by decide, by decide, by decide⟩, _, _, rfl, rfl, .inr ⟨by decide, by decide⟩, ?_⟩
      refine ⟨_, rfl, _, _, rfl, rfl, ⟨by decide, by decide, by decide⟩, b, _, n + 4 - i, rfl, by decide, by decide, B2.less (by omega), fun d2 H3 b1 b2 B3 U3 => ?_⟩
      refine ⟨_, _, rfl, rfl, _, _, rfl, ?_, ?_, B3.less (by omega), U2.trans U3⟩
      · show 0 ≤ c * 1000000 + d2
        omega
      · have b2' : d2 < 1000000 := b2
        show c * 1000000 + d2 < 1000000 ^ (i + 1)
        rw [Int.pow_succ]
        generalize (1000000 : Int) ^ i = X at c1 ⊢
        omega
    · rintro σ H2 ⟨c, y, rfl, c0, c1, B2, U2⟩
      refine ⟨_, rfl, q c H2 c0 ?_ (B2.less (by omega)) U2⟩
      rcases hv' with rfl | rfl
      · exact Int.lt_trans c1 (by decide)
      · exact c1
end
end SH

set_option Elab.async false
set_option linter.all false
set_option maxRecDepth 100000
namespace SH
open PySem L2
theorem signs_ok {l : List Str} (h1 : 1 ≤ l.length) (h8 : l.length ≤ 8) (h : ∀ s ∈ l, ∃ c, s = one c ∧ 97 ≤ c ∧ c ≤ 122) : nmOk (PySem.Txt.join (PySem.Str.ofString "") l) := by
  have e : ∀ l : List Str, (∀ s ∈ l, ∃ c, s = one c ∧ 97 ≤ c ∧ c ≤ 122) → ((l.map codes).flatten).length = l.length ∧ ∀ c ∈ (l.map codes).flatten, 97 ≤ c ∧ c ≤ 122 := by
    intro l
    induction l with
    | nil => intro _; exact ⟨rfl, fun c hc => by cases hc⟩
    | cons a r ih =>
      intro h
      obtain ⟨i1, i2⟩ := ih fun s hs => h s (List.mem_cons_of_mem _ hs)
      obtain ⟨c, rfl, c1, c2⟩ := h a List.mem_cons_self
      refine ⟨?_, ?_⟩
      · show (c :: (r.map codes).flatten).length = r.length + 1
        rw [List.length_cons, i1]
      · intro x hx
        rcases List.mem_cons.mp (show x ∈ c :: (r.map codes).flatten from hx) with rfl | hx
        · exact ⟨c1, c2⟩
        · exact i2 x hx
  obtain ⟨e1, e2⟩ := e l h
  refine ⟨?_, ?_, ?_⟩
  · rw [join_codes, e1]; exact h1
  · rw [join_codes, e1]; exact h8
  · rw [join_codes]; exact e2
theorem pre_ok {k s : Str} {n : Nat} (hk : k ∈ kept) (hs : nmOk s) (h1 : 1 ≤ n) (h8 : n ≤ 8) : nmOk (cutS (k ++ s) none (some (n : Int))) := by
  obtain ⟨k1, k2⟩ := kept_pos k hk
  obtain ⟨s1, s2, s3⟩ := hs
  refine ⟨?_, ?_, ?_⟩
  · rw [cutN, codes_app, List.length_take, List.length_append]; omega
  · rw [cutN, List.length_take]; omega
  · rw [cutN, codes_app]
    intro c hc
    rcases List.mem_append.mp (List.mem_of_mem_take hc) with h | h
    · exact kept_ok k hk c h
    · exact s3 c h
theorem ones_len : ∀ l : List Str, (∀ s ∈ l, ∃ c, s = one c ∧ 97 ≤ c ∧ c ≤ 122) → (l.map (·.length)).sum = l.length
  | [], _ => rfl
  | a :: r, h => by
    have ih := ones_len r fun s hs => h s (List.mem_cons_of_mem _ hs)
    obtain ⟨c, rfl, _⟩ := h a List.mem_cons_self
    show (one c).length + (r.map (·.length)).sum = r.length + 1
    rw [ih]
    show 1 + r.length = r.length + 1
    omega
theorem letter_at {i : Int} (h0 : 0 ≤ i) (h1 : i < 26) : ∃ c, atI letters.cps.toList i = some c ∧ 97 ≤ c ∧ c ≤ 122 := by
  have hl : (codes letters).length = 26 := by decide +kernel
  have hk : i.toNat < (codes letters).length := by omega
  refine ⟨(codes letters)[i.toNat], ?_, letters_ok _ (List.getElem_mem hk)⟩
  have q : atI (codes letters) ((i.toNat : Nat) : Int) = some (codes letters)[i.toNat] := atI_nat (List.getElem?_eq_getElem hk)
  rwa [show ((i.toNat : Nat) : Int) = i by omega] at q
theorem filt_snoc {l : List Str} {L : List Str} {i : Nat} {x : Str} (h : l[i]? = some x) : (l.take (i + 1)).filter (fun y => !decide (y ∈ L)) = (l.take i).filter (fun y => !decide (y ∈ L)) ++ (if (!decide (x ∈ L)) = true then [x] else []) := by
  rw [List.take_add_one, h, List.filter_append]
  congr 1
  show List.filter _ [x] = _
  rw [List.filter_cons, List.filter_nil]
theorem names_len {l : List Str} (h : NmsOk l) : True := trivial
section
variable {P : Program} {w : World} {K : PySem.W.Frag} {mg : Str → Option Value} {base : Heap}
theorem ok_names {f t k : Addr} {fd td kd : FuncData} (F : Fun K "_law_names" "_law_names" sNames f fd) (TK : Fk P w K mg base 1 "_law_take" t td ["_law_bag_here", "_law_many"] spTake) (KP : Fk P w K mg base 1 "_law_kept" k kd [] spKept) (T : Bi mg) :
    FnOk P w K mg base CX0 2 f fd ["_law_bag_here", "_law_many"] spNames := by
  refine F.ok scNames (fun vs H Q E h => ?_) (fun cdv A outer s H vs Q E hr h => ?_)
  · obtain ⟨b, m, n, rfl, _⟩ := h
    rfl
  obtain ⟨b, m, n, rfl, hm, hB, q⟩ := h
  refine ⟨_, (pss_cons (ps_set (i := 2) scNames.nd rfl (Or.inr rfl) pe_str)
    (pss_cons (ps_set (i := 3) scNames.nd rfl (Or.inr rfl) (pe_lst pa_nil))
    (pss_cons (ps_for PassesOwn.never rfl (pi_range1 (by rfl) T.range (pa_cons (pv 1) pa_nil)) (pg_name (i := 4) scNames.nd rfl (.inl rfl))
      (pss_cons (ps_set (i := 5) scNames.nd rfl (Or.inr rfl) (pe_join pe_str (pe_lc (own := [("_law_j", 8)]) (g := gName 8) (tt := tYes) (by rfl) scNames.nd (pi_range1 (by rfl) T.range (pa_cons (pe_ix ix_list (pe_lst (pa_cons pe_int (pa_cons pe_int (pa_cons pe_int (pa_cons pe_int pa_nil))))) (pe_call TK.G (hr.mono (by omega)) (by rfl) TK.m TK.k TK.b .nil pass0 (pa_cons (pv 0) (pa_cons pe_int pa_nil))) (fun _ _ => rfl)) pa_nil)) (blkOk_by (own := [("_law_j", 8)]) (N := ["_law_bag_here", "_law_many", "_law_letters", "_law_found", "_law_k", "_law_name", "_law_way", "_law_some", "_law_j", "_law_letter", "_law_one"]) (sc := defScope sNames) (by decide +kernel)) (fun _ _ _ _ _ => pg_name (i := 8) scNames.nd rfl (Or.inl rfl)) (fun _ _ _ _ _ => pts_nil) (fun _ _ _ _ _ => (pe_ix ix_str (pv 2) (pe_call TK.G (hr.mono (by omega)) (by rfl) TK.m TK.k TK.b .nil pass0 (pa_cons (pv 0) (pa_cons pe_int pa_nil))) (fun _ _ => rfl))))))
    (pss_cons (ps_set (i := 6) scNames.nd rfl (Or.inl rfl) (pe_call TK.G (hr.mono (by omega)) (by rfl) TK.m TK.k TK.b .nil pass0 (pa_cons (pv 0) (pa_cons pe_int pa_nil))))
    (C8.pss_cut (ps_if (pt_cmpR op_lt (pv 6) pe_int (nomark _))
      (pss_one (ps_set (i := 5) scNames.nd rfl (Or.inr rfl) (pe_slice sl_str (pe_op op_add_str (pe_ix ix_list (pe_call0 KP.G (hr.mono (by omega)) (by rfl) KP.m KP.k KP.b .nil pass0) (pe_call TK.G (hr.mono (by omega)) (by rfl) TK.m TK.k TK.b .nil pass0 (pa_cons (pv 0) (pa_cons pe_int pa_nil))) (fun _ _ => rfl)) (pv 5)) po_none (po_some (pe_ix ix_list (pe_lst (pa_cons pe_int (pa_cons pe_int pa_nil))) (pv 6) (fun _ _ => rfl))))))
      pss_nil)
    (pss_cons (ps_setLc (i := 7) (own := [("_law_letter", 9)]) (g := gName 9) (tt := tYes) (by rfl) scNames.nd rfl rfl (sw_true rfl rfl rfl (by decide +kernel)) (pi_str (pv 2)) (blkOk_by (own := [("_law_letter", 9)]) (N := ["_law_bag_here", "_law_many", "_law_letters", "_law_found", "_law_k", "_law_name", "_law_way", "_law_some", "_law_j", "_law_letter", "_law_one"]) (sc := defScope sNames) (by decide +kernel)) (fun _ _ _ _ _ => pg_name (i := 9) scNames.nd rfl (Or.inl rfl)) (fun _ _ _ _ _ => pts_nil) (fun _ _ _ _ _ => (pe_op op_add_str (pv 9) (pe_slice sl_str (pv 5) (po_some pe_int) po_none))))
    (C8.pss_cut (ps_if (pt_cmpR op_in_seq (pv 5) (pe_op op_cat (pv 3) (pe_call0 KP.G (hr.mono (by omega)) (by rfl) KP.m KP.k KP.b .nil pass0)) rfl)
      (pss_one (ps_set (i := 5) scNames.nd rfl (Or.inr rfl) (pe_ix ix_list (pe_lc (own := [("_law_one", 10)]) (g := gName 10) (tt := tTest (tOp (rIn K true) (tVar 10) (tOp rCat (tVar 3) (tCall spKept [] E0 tNil)))) (by rfl) scNames.nd (pi_list (pv 7)) (blkOk_by (own := [("_law_one", 10)]) (N := ["_law_bag_here", "_law_many", "_law_letters", "_law_found", "_law_k", "_law_name", "_law_way", "_law_some", "_law_j", "_law_letter", "_law_one"]) (sc := defScope sNames) (by decide +kernel)) (fun _ _ _ _ _ => pg_name (i := 10) scNames.nd rfl (Or.inl rfl)) (fun _ _ _ _ _ => (pts_one (pt_cmpR (op_notIn_seqK K) (pv 10) (pe_op op_cat (pv 3) (pe_call0 KP.G (hr.mono (by omega)) (by rfl) KP.m KP.k KP.b .nil pass0)) rfl))) (fun _ _ _ _ _ => (pv 10))) pe_int (fun _ _ => rfl))))
      pss_nil)
    (pss_one (ps_expr (pe_bm PySem.F.plainAttrs_list PySem.F.slot_list_append PySem.F.type_list_append mt_append (pv 3) (pa_cons (pv 5) pa_nil))))))))))
    (pss_one (ps_ret (pv 3)))))), ?_⟩
  have hs : sizeLine = 16777216 := by decide
  refine ⟨Nat.zero_le _, fun p hp => ?_⟩
  obtain ⟨ys0, hb0⟩ := hB.lst
  have npb : p ≠ b := fun e => by rw [e, hb0] at hp; cases hp
  refine ⟨_, rfl, m, rfl, by omega, by omega, ?_⟩
  refine for_range (lo := 0) (n := (m : Int).toNat) (fun i σ H' => ∃ (nm : List Str) (y4 y5 y6 y7 : Option V), σ = [some (.ref b), some (.int m), some (.str letters), some (.ref p), y4, y5, y6, y7, none, none, none] ∧
    H' p = some (.lst (nm.map V.str)) ∧ nm.length = i ∧ NmsOk nm ∧ Bag H' b (n + 16 * (m - i)) ∧ But b H H') ?_ ?_ ?_
  · exact ⟨[], none, none, none, none, rfl, upd_same, rfl, ⟨fun s h => (by cases h), List.nodup_nil⟩, hB.same (same_new hp _), But.new hp _⟩
  · rintro i σ H1 hi ⟨nm, y4, y5, y6, y7, rfl, hp1, hl, hN, B1, U1⟩
    have hi' : i < m := by omega
    -- the name by its letters
    refine ⟨⟨_, rfl⟩, (by show 4 ≤ sizeLine; decide), fun l1 hl1 => ?_⟩
    refine ⟨_, rfl, b, 4, n + 16 * (m - i) - 1, rfl, by decide, by decide, (B1.same (same_new hl1 _)).less (by omega), fun d1 H2 a1 a2 B2 U2 => ?_⟩
    have nb1 : l1 ≠ b := fun e => by obtain ⟨ys, hy⟩ := B1.lst; rw [e, hy] at hl1; cases hl1
    have hl2 : H2 l1 = some (.lst (([1, 2, 3, 8] : List Int).map V.int)) := U2 _ _ nb1 upd_same
    obtain ⟨v, ev, hv⟩ := menuI (ns := [1, 2, 3, 8]) a1 (by show d1 < 4; exact a2)
    have hv' : 1 ≤ v ∧ v ≤ 8 := by
      have : v = 1 ∨ v = 2 ∨ v = 3 ∨ v = 8 := by simpa using hv
      omega
    refine ⟨l1, _, _, _, rfl, rfl, SqL.of hl2, ev, v, rfl, by omega, by omega, ?_⟩
    intro D hD
    have hp2 : H2 p = some (.lst (nm.map V.str)) := U2 _ _ npb ((same_new hl1 _) _ _ hp1)
    have nDb : D ≠ b := fun e => by obtain ⟨ys, hy⟩ := B2.lst; rw [e, hy] at hD; cases hD
    have nDp : D ≠ p := fun e => by rw [e, hp2] at hD; cases hD
    have U12 : But b H1 H2 := (But.new hl1 _).trans U2
    refine lc_range (lo := 0) (n := v.toNat) (fun j H' => ∃ ss : List Str, H' D = some (.lst (ss.map V.str)) ∧ ss.length = j ∧ (∀ s ∈ ss, ∃ c, s = one c ∧ 97 ≤ c ∧ c ≤ 122) ∧ Bag H' b (n + 16 * (m - i) - 1 - j) ∧ (∀ a o, a ≠ b → a ≠ D → H2 a = some o → H' a = some o)) ?_ ?_ ?_
    · refine ⟨[], upd_same, rfl, fun s h => (by cases h), (B2.same (same_new hD _)).less (by omega), fun a o _ _ e => (same_new hD _) _ _ e⟩
    · rintro j H3 hj ⟨ss, hD3, hss, hone, B3, U3⟩
      refine ⟨rfl, ?_⟩
      refine ⟨_, rfl, _, rfl, b, 26, n + 16 * (m - i) - 2 - j, rfl, by decide, by decide, B3.less (by omega), fun d2 H4 b1 b2 B4 U4 => ?_⟩
      obtain ⟨c, ec, c1, c2⟩ := letter_at b1 b2
      refine ⟨letters, _, c, rfl, rfl, (by show letters.length ≤ sizeLine; decide +kernel), ec, ?_⟩
      refine ⟨_, U4 _ _ nDb hD3, by rw [List.length_map, hss]; omega, ss ++ [one c], ?_, by rw [List.length_append, hss]; rfl, ?_, ?_, ?_⟩
      · rw [upd_same, List.map_append]
        rfl
      · intro s hs'
        rcases List.mem_append.mp hs' with h | h
        · exact hone s h
        · exact ⟨c, List.mem_singleton.mp h, c1, c2⟩
      · have B5 : Bag (upd H4 D (.lst (ss.map V.str ++ [V.str (one c)]))) b (n + 16 * (m - i) - 2 - j) := by
          obtain ⟨x, y, z, e, r⟩ := B4
          exact ⟨x, y, z, by rw [upd_ne (Ne.symm nDb)]; exact e, r⟩
        exact B5.less (by omega)
      · intro a o na nd e
        rw [upd_ne nd]
        exact U4 _ _ na (U3 a o na nd e)
    · rintro H3 ⟨ss, hD3, hss, hone, B3, U3⟩
      have hp3 : H3 p = some (.lst (nm.map V.str)) := U3 _ _ npb (Ne.symm nDp) hp2
      have U13 : But b H1 H3 := fun a o na e => U3 a o na (ne_of_none (U12 a o na e) hD) (U12 a o na e)
      refine ⟨_, D, ss, rfl, rfl, .inl (SqL.of hD3), ?_, ?_⟩
      · rw [ones_len ss hone, hss]
        have z : (PySem.Str.ofString "").length = 0 := by decide
        rw [z]
        omega
      have nok : nmOk (PySem.Txt.join (PySem.Str.ofString "") ss) := signs_ok (by rw [hss]; omega) (by rw [hss]; omega) hone
      generalize PySem.Txt.join (PySem.Str.ofString "") ss = nme at nok
      -- its way
      refine ⟨_, rfl, b, 8, n + 16 * (m - i) - 10, rfl, by decide, by decide, B3.less (by omega), fun d3 H4 c1 c2 B4 U4 => ?_⟩
      have hp4 : H4 p = some (.lst (nm.map V.str)) := U4 _ _ npb hp3
      refine ⟨fun σ' H' => ∃ nme', nmOk nme' ∧ σ' = [some (.ref b), some (.int m), some (.str letters), some (.ref p), some (.int (0 + i)), some (.str nme'), some (.int d3), y7, none, none, none] ∧ H' p = some (.lst (nm.map V.str)) ∧ Bag H' b (n + 16 * (m - i) - 11) ∧ But b H1 H', ?_, ?_⟩
      · refine ⟨_, rfl, _, _, rfl, rfl, _, rfl, ?_⟩
        refine ite2 (fun c => ?_) (fun c => ?_)
        · have c' : d3 < 2 := of_decide_eq_true c
          refine ⟨rfl, fun kp hkp => ?_⟩
          have nkb : kp ≠ b := fun e => by obtain ⟨ys, hy⟩ := B4.lst; rw [e, hy] at hkp; cases hkp
          refine ⟨_, rfl, b, 10, n + 16 * (m - i) - 11, rfl, by decide, by decide, (B4.same (same_new hkp _)).less (by omega), fun d4 H5 e1 e2 B5 U5 => ?_⟩
          obtain ⟨kw, ek, hk⟩ := menuS (ns := kept) e1 (by show d4 < 10; exact e2)
          have hk5 : H5 kp = some (.lst (kept.map V.str)) := U5 _ _ nkb upd_same
          refine ⟨kp, _, _, _, rfl, rfl, SqL.of hk5, ek, _, rfl, kw, nme, rfl, rfl, ?_, ?_⟩
          · have k2 := (kept_pos kw hk).2
            have n2 := nok.2.1
            rw [codes_len] at k2 n2
            omega
          obtain ⟨lim, el, hlim⟩ := menuI (ns := [8, 5]) c1 (by show d3 < 2; exact c')
          have hlim' : lim = 8 ∨ lim = 5 := by simpa using hlim
          refine ⟨(by show 2 ≤ sizeLine; decide), fun l2 hl2' => ?_⟩
          refine ⟨_, rfl, l2, _, _, _, rfl, rfl, SqL.of upd_same, el, _, rfl, kw ++ nme, rfl, ?_, ?_⟩
          · have k2 := (kept_pos kw hk).2
            have n2 := nok.2.1
            rw [codes_len] at k2 n2
            rw [app_len]
            omega
          refine ⟨cutS (kw ++ nme) none (some lim), ?_, rfl, ?_, ?_, ?_⟩
          · rcases hlim' with rfl | rfl
            · exact pre_ok (n := 8) hk nok (by decide) (by decide)
            · exact pre_ok (n := 5) hk nok (by decide) (by decide)
          · exact (same_new hl2' _) _ _ (U5 _ _ npb ((same_new hkp _) _ _ hp4))
          · exact B5.same (same_new hl2' _)
          · exact U13.trans (U4.trans ((But.new hkp _).trans (U5.trans (But.new hl2' _))))
        · exact ⟨nme, nok, rfl, hp4, B4.less (by omega), U13.trans U4⟩
      · rintro σ' H5 ⟨nme', nok', rfl, hp5, B5, U5⟩
        -- the twenty-six others
        refine ⟨_, rfl, letters, rfl, ?_⟩
        intro D2 hD2
        have nD2b : D2 ≠ b := fun e => by obtain ⟨ys, hy⟩ := B5.lst; rw [e, hy] at hD2; cases hD2
        have sz : letters.cps.size = 26 := by decide +kernel
        refine lc_it walk_str (fun j H' => H' = upd H5 D2 (.lst (((some26 nme').take j).map V.str))) rfl (fun _ _ _ _ => trivial) ?_ ?_
        · rintro j x H6 H7 hj rfl ⟨rfl, c, hc, rfl⟩
          refine ⟨rfl, ?_⟩
          refine ⟨_, rfl, _, rfl, 1, rfl, nme', rfl, ?_, one c, _, rfl, rfl, ?_, ?_⟩
          · have := nok'.2.1
            rw [codes_len] at this
            omega
          · have := nok'.2.1
            have e1 := cut1 nme'
            have e2 := congrArg List.length e1
            rw [codes_len, List.length_drop] at e2
            have e3 : (one c).length = 1 := rfl
            omega
          · refine ⟨_, upd_same, ?_, ?_⟩
            · rw [List.length_map, List.length_take]
              omega
            · have hx : (some26 nme')[j]? = some (one c ++ cutS nme' (some 1) none) := by
                unfold some26
                rw [List.getElem?_map, show (codes letters)[j]? = some c from by unfold codes; rw [Array.getElem?_toList]; exact hc]
                rfl
              rw [List.take_add_one, hx, List.map_append]
              funext a
              by_cases ha : a = D2
              · subst ha
                rw [upd_same, upd_same]
                rfl
              · rw [upd_ne ha, upd_ne ha, upd_ne ha]
        · rintro H6 rfl
          have e26 : (some26 nme').take letters.cps.size = some26 nme' := List.take_of_length_le (by rw [some26_len, sz]; omega)
          rw [e26]
          have s6 : Same H5 (upd H5 D2 (.lst ((some26 nme').map V.str))) := same_new hD2 _
          have hD6 : (upd H5 D2 (.lst ((some26 nme').map V.str))) D2 = some (.lst ((some26 nme').map V.str)) := upd_same
          generalize upd H5 D2 (.lst ((some26 nme').map V.str)) = H6 at s6 hD6
          have hp6 := s6 _ _ hp5
          have B6 := B5.same s6
          have len12 : (nm ++ kept).length ≤ 22 := by
            rw [List.length_append]
            have : kept.length = 10 := rfl
            omega
          refine ⟨fun σ' H' => ∃ fin, nmOk fin ∧ fin ∉ nm ++ kept ∧ σ' = [some (.ref b), some (.int m), some (.str letters), some (.ref p), some (.int (0 + i)), some (.str fin), some (.int d3), some (.ref D2), none, none, none] ∧ Same H6 H', ?_, ?_⟩
          · refine ⟨_, rfl, _, rfl, rfl, fun kp hkp => ?_⟩
            have sk : Same H6 (upd H6 kp (.lst (kept.map V.str))) := same_new hkp _
            refine ⟨p, kp, _, _, rfl, rfl, sk _ _ hp6, upd_same, ?_, fun u hu => ?_⟩
            · rw [List.length_map, List.length_map]
              have : kept.length = 10 := rfl
              omega
            have su : Same _ _ := same_new hu (.lst (nm.map V.str ++ kept.map V.str))
            refine ⟨u, _, rfl, .inl (SqL.of upd_same), rfl, ?_, _, rfl, ?_⟩
            · rw [← List.map_append]; exact flat_strs _
            rw [← List.map_append] at su ⊢
            rw [if_neg Bool.false_ne_true, inV_str]
            refine ite2 (fun c => ?_) (fun c => ?_)
            · have su' := sk.trans su
              generalize upd (upd H6 kp (.lst (kept.map V.str))) u (.lst ((nm ++ kept).map V.str)) = H8 at su'
              -- [one for one in some if ..][0]
              refine ⟨_, rfl, D2, rfl, ⟨_, SqL.of (su' _ _ hD6)⟩, ?_⟩
              intro D3 hD3
              refine lc_list (K := K) (a := D2) (xs := (some26 nme').map V.str) (fun j H' => H' D3 = some (.lst ((((some26 nme').take j).filter (fun y => !decide (y ∈ nm ++ kept))).map V.str)) ∧ Same H8 H') ⟨upd_same, same_new hD3 _⟩ (fun j H' _ h => SqL.of (h.2 _ _ (su' _ _ hD6))) ?_ ?_
              · rintro j x H9 hx ⟨h9, s9⟩
                obtain ⟨x', hx', rfl⟩ : ∃ x', (some26 nme')[j]? = some x' ∧ V.str x' = x := by
                  rw [List.getElem?_map] at hx
                  obtain ⟨x', h1, h2⟩ := Option.map_eq_some_iff.mp hx
                  exact ⟨x', h1, h2⟩
                have hj26 : j < 26 := by
                  obtain ⟨h1, _⟩ := List.getElem?_eq_some_iff.mp hx'
                  rwa [some26_len] at h1
                refine ⟨rfl, ?_⟩
                refine ⟨_, rfl, _, rfl, rfl, fun kp2 hkp2 => ?_⟩
                have sk2 : Same H9 (upd H9 kp2 (.lst (kept.map V.str))) := same_new hkp2 _
                refine ⟨p, kp2, _, _, rfl, rfl, sk2 _ _ (s9 _ _ (su' _ _ hp6)), upd_same, ?_, fun u2 hu2 => ?_⟩
                · rw [List.length_map, List.length_map]
                  have : kept.length = 10 := rfl
                  omega
                have su2 : Same _ _ := same_new hu2 (.lst (nm.map V.str ++ kept.map V.str))
                refine ⟨u2, _, rfl, .inl (SqL.of upd_same), rfl, ?_, _, rfl, ?_⟩
                · rw [← List.map_append]; exact flat_strs _
                rw [← List.map_append] at su2 ⊢
                rw [if_pos rfl, inV_str]
                have s10 := sk2.trans su2
                generalize upd (upd H9 kp2 (.lst (kept.map V.str))) u2 (.lst ((nm ++ kept).map V.str)) = H10 at s10
                have fs := filt_snoc (L := nm ++ kept) hx'
                refine ite2 (fun c2 => ?_) (fun c2 => ?_)
                · refine ⟨_, rfl, _, s10 _ _ h9, ?_, ?_, ?_⟩
                  · rw [List.length_map]
                    have := List.length_filter_le (fun y => !decide (y ∈ nm ++ kept)) ((some26 nme').take j)
                    rw [List.length_take, some26_len] at this
                    omega
                  · rw [upd_same, fs, if_pos c2, List.map_append]
                    rfl
                  · intro a o e
                    rw [upd_ne (ne_of_none e hD3)]
                    exact s10 _ _ (s9 _ _ e)
                · refine ⟨?_, s9.trans s10⟩
                  rw [fs, if_neg c2, List.append_nil]
                  exact s10 _ _ h9
              · rintro H9 ⟨h9, s9⟩
                rw [List.length_map, List.take_length] at h9
                obtain ⟨x, hx, hxL⟩ := pig (some26 nme') (nm ++ kept) (some26_nd _) (by rw [some26_len]; omega)
                have hin : x ∈ (some26 nme').filter (fun y => !decide (y ∈ nm ++ kept)) := List.mem_filter.mpr ⟨hx, by rw [decide_eq_false hxL]; rfl⟩
                cases hf : (some26 nme').filter (fun y => !decide (y ∈ nm ++ kept)) with
                | nil => rw [hf] at hin; cases hin
                | cons z r =>
                  have hz : z ∈ (some26 nme').filter (fun y => !decide (y ∈ nm ++ kept)) := by rw [hf]; exact List.mem_cons_self
                  obtain ⟨z1, z2⟩ := List.mem_filter.mp hz
                  rw [hf] at h9
                  refine ⟨D3, _, 0, .str z, rfl, rfl, SqL.of h9, atI_nat (j := 0) rfl, z, some26_ok nok' z1, ?_, rfl, su'.trans s9⟩
                  intro q
                  rw [decide_eq_true q] at z2
                  cases z2
            · refine ⟨nme', nok', ?_, rfl, sk.trans su⟩
              exact of_decide_eq_false (Bool.eq_false_iff.mpr c)
          · rintro σ' H7 ⟨fin, fok, fno, rfl, s7⟩
            have hp7 := s7 _ _ hp6
            refine ⟨_, rfl, .inl ⟨rfl, _, SqL.of hp7⟩, _, rfl, p, _, _, rfl, rfl, hp7, ?_, ?_⟩
            · rw [List.length_map]
              omega
            · refine ⟨nm ++ [fin], _, _, _, _, rfl, ?_, ?_, hN.snoc fok fno, ?_, ?_⟩
              · rw [upd_same, List.map_append]
                rfl
              · rw [List.length_append, hl]
                rfl
              · obtain ⟨x, y, z, e, r1, r2, r3, r4, r5⟩ := B6.same s7
                exact ⟨x, y, z, by rw [upd_ne (Ne.symm npb)]; exact e, r1, r2, r3, r4, by omega⟩
              · intro a o na e
                have hap : a ≠ p := ne_of_none e hp
                rw [upd_ne hap]
                exact s7 _ _ (s6 _ _ (U5 _ _ na (U1 _ _ na e)))
  · rintro σ H1 ⟨nm, y4, y5, y6, y7, rfl, hp1, hl, hN, B1, U1⟩
    exact ⟨_, rfl, q p nm H1 hp hp1 (by omega) hN (B1.less (by omega)) U1⟩
end
end SH

set_option Elab.async false
set_option linter.all false
set_option maxRecDepth 100000
namespace SH
open PySem L2
abbrev sTree : Stmt := topS 10
theorem scTree : FnScope ["_law_bag_here", "_law_names_here", "_law_deep", "_law_way", "_law_sign"] ["_law_bag_here", "_law_names_here", "_law_deep"] (defScope sTree) := ⟨rfl, rfl, rfl, by decide +kernel, rfl, by decide +kernel, by decide +kernel⟩
/-- an expression at most n deep, of these names -/
def Ex.of (nm : List Str) : Nat → Ex → Prop
  | 0, _ => False
  | _ + 1, .num i => 0 ≤ i ∧ i < 1000000 ^ 5
  | _ + 1, .nam s => s ∈ nm
  | n + 1, .op _ l r => Ex.of nm n l ∧ Ex.of nm n r
theorem Ex.of_up {nm : List Str} : ∀ {n m : Nat} {e : Ex}, n ≤ m → Ex.of nm n e → Ex.of nm m e
  | 0, _, _, _, h => h.elim
  | n + 1, m + 1, .num _, _, h => h
  | n + 1, m + 1, .nam _, _, h => h
  | n + 1, m + 1, .op _ _ _, hm, h => ⟨Ex.of_up (by omega) h.1, Ex.of_up (by omega) h.2⟩
theorem Ex.of_ok {nm : List Str} (hn : ∀ s ∈ nm, nmOk s) : ∀ {n : Nat} {e : Ex}, Ex.of nm n e → Ex.ok n e
  | 0, _, h => h
  | n + 1, .num i, h => log_ok h.1 h.2
  | n + 1, .nam s, h => by
    have q := (hn s h).2.1
    rw [codes_len] at q
    show s.length ≤ 2000
    omega
  | n + 1, .op _ _ _, h => ⟨Ex.of_ok hn h.1, Ex.of_ok hn h.2⟩
def sgs : List Sg := [.add, .sub, .mul, .lt, .eq]
def tc : Nat → Nat
  | 0 => 0
  | n + 1 => 2 * tc n + 12
def spTree (n : Nat) : Sp := fun vs H Q _ => ∃ (b a : Addr) (nm : List Str) (k : Nat), vs = [.ref b, .ref a, .int n] ∧ H a = some (.lst (nm.map V.str)) ∧ a ≠ b ∧ nm.length ≤ 1000 ∧ (∀ s ∈ nm, nmOk s) ∧ 1 ≤ n ∧ Bag H b (k + tc n) ∧
  ∀ (v : V) (e : Ex) (H' : Hp), TrIn H' e v → Ex.of nm n e → Bag H' b k → But b H H' → Q v H'
theorem sgs_at {i : Int} (h0 : 0 ≤ i) (h1 : i < 5) : ∃ g : Sg, atI (sgs.map fun g => V.str g.txt) i = some (.str g.txt) := by
  obtain ⟨v, e, m⟩ := menu (xs := sgs.map fun g => V.str g.txt) h0 (by show i < 5; exact h1)
  obtain ⟨g, _, rfl⟩ := List.mem_map.mp m
  exact ⟨g, e⟩
theorem strOk_nm {s : Str} (h : nmOk s) : PyData.strOk s = true := by
  unfold PyData.strOk
  rw [Array.all_eq_true']
  intro x hx
  have := (h.2.2 x (Array.mem_toList_iff.mpr hx)).2
  exact decide_eq_true (by omega)
theorem dp_strs {K : PySem.W.Frag} {H : Hp} : ∀ l : List Str, DpAll K H (l.map V.str) (l.map PyData.str)
  | [] => .nil
  | _ :: r => .cons (.str _) (dp_strs r)
theorem lay_strs : ∀ {l : List Str}, (∀ s ∈ l, nmOk s) → PyData.canLayAll0 (l.map PyData.str) = true ∧ PyData.depthAll (l.map PyData.str) = 0
  | [], _ => ⟨rfl, rfl⟩
  | a :: r, h => by
    obtain ⟨h1, h2⟩ := lay_strs (l := r) fun s hs => h s (List.mem_cons_of_mem _ hs)
    refine ⟨?_, ?_⟩
    · show (PyData.strOk a && PyData.canLayAll0 (r.map PyData.str)) = true
      rw [strOk_nm (h a List.mem_cons_self), h1] <;> rfl
    · show max 0 (PyData.depthAll (r.map PyData.str)) = 0
      rw [h2] <;> rfl
theorem shaped_strs {l : List Str} (h : ∀ s ∈ l, nmOk s) : SeqAt.shaped (.list (l.map PyData.str)) = true := by
  obtain ⟨h1, h2⟩ := lay_strs h
  show (PyData.canLayAll0 (l.map PyData.str) && decide (PyData.depthAll (l.map PyData.str) + 1 ≤ 64)) = true
  rw [h1, h2] <;> rfl
theorem trNum {H : Hp} {p : Addr} {i : Int} (h : H p = some (.tup [.str "number", .int i])) : TrIn H (.num i) (.ref p) := ⟨p, rfl, h⟩
theorem trNam {H : Hp} {p : Addr} {i : Str} (h : H p = some (.tup [.str "name", .str i])) : TrIn H (.nam i) (.ref p) := ⟨p, rfl, h⟩
def spTrees (N : Nat) : Sp := fun vs H Q E => ∃ n, n ≤ N ∧ spTree n vs H Q E
section
variable {P : Program} {w : World} {K : PySem.W.Frag} {mg : Str → Option Value} {base : Heap}
theorem ok_tree {n : Nat} {f t u : Addr} {fd td ud : FuncData} (F : Fun K "_law_tree" "_law_tree" sTree f fd) (TK : Fk P w K mg base 1 "_law_take" t td ["_law_bag_here", "_law_many"] spTake) (NB : Fk P w K mg base 2 "_law_number" u ud ["_law_bag_here"] spNumber)
    (TR : Fk P w K mg base (n + 2) "_law_tree" f fd ["_law_bag_here", "_law_names_here", "_law_deep"] (spTree n)) (T : Bi mg) : FnOk P w K mg base CX0 (n + 3) f fd ["_law_bag_here", "_law_names_here", "_law_deep"] (spTree (n + 1)) := by
  refine F.ok scTree (fun vs H Q E h => ?_) (fun cdv A outer s H vs Q E hr h => ?_)
  · obtain ⟨b, a, nm, k, rfl, _⟩ := h
    rfl
  obtain ⟨b, a, nm, k, rfl, ha, nab, hnl, hnm, _, hB, q⟩ := h
  refine ⟨_, (pss_cons (ps_set (i := 3) scTree.nd rfl (Or.inl rfl) (pe_call TK.G (hr.mono (by omega)) (by rfl) TK.m TK.k TK.b .nil pass0 (pa_cons (pv 0) (pa_cons pe_int pa_nil))))
    (pss_cons (ps_if (PW.pt (pw_or (pt_cmpR op_eq (pv 2) pe_int (nomark _)) (pw_or1 (pt_cmpR op_eq (pv 3) pe_int (nomark _)))))
      (C8.pss_cut (ps_if (PW.pt (pw_and (pt_cmpR (op_neD hr.units) (pv 1) (pe_lst pa_nil) (nomark _)) (pw_and1 (pt_cmpR op_gt (pe_call TK.G (hr.mono (by omega)) (by rfl) TK.m TK.k TK.b .nil pass0 (pa_cons (pv 0) (pa_cons pe_int pa_nil))) pe_int (nomark _)))))
      (pss_one (ps_ret (pe_tup (pa_cons pe_str (pa_cons (pe_ix ix_list (pv 1) (pe_call TK.G (hr.mono (by omega)) (by rfl) TK.m TK.k TK.b .nil pass0 (pa_cons (pv 0) (pa_cons (pe_callB call_len_seq (by rfl) T.len (by decide +kernel) (pa_cons (pv 1) pa_nil)) pa_nil))) (fun _ _ => rfl)) pa_nil)))))
      pss_nil)
    (pss_one (ps_ret (pe_tup (pa_cons pe_str (pa_cons (pe_call NB.G (hr.mono (by omega)) (by rfl) NB.m NB.k NB.b .nil pass0 (pa_cons (pv 0) pa_nil)) pa_nil))))))
      pss_nil)
    (pss_cons (ps_set (i := 4) scTree.nd rfl (Or.inl rfl) (pe_ix ix_list (pe_lst (pa_cons pe_str (pa_cons pe_str (pa_cons pe_str (pa_cons pe_str (pa_cons pe_str pa_nil)))))) (pe_call TK.G (hr.mono (by omega)) (by rfl) TK.m TK.k TK.b .nil pass0 (pa_cons (pv 0) (pa_cons pe_int pa_nil))) (fun _ _ => rfl)))
    (pss_one (ps_ret (pe_tup (pa_cons (pv 4) (pa_cons (pe_call TR.G hr (by rfl) TR.m TR.k TR.b .nil pass0 (pa_cons (pv 0) (pa_cons (pv 1) (pa_cons (pe_op op_sub (pv 2) pe_int) pa_nil)))) (pa_cons (pe_call TR.G hr (by rfl) TR.m TR.k TR.b .nil pass0 (pa_cons (pv 0) (pa_cons (pv 1) (pa_cons (pe_op op_sub (pv 2) pe_int) pa_nil)))) pa_nil))))))))), ?_⟩
  have hs : sizeLine = 16777216 := by decide
  have htc : tc (n + 1) = 2 * tc n + 12 := rfl
  refine ⟨_, rfl, b, 5, k + 2 * tc n + 11, rfl, by decide, by decide, hB, fun d1 H1 a1 a2 B1 U1 => ?_⟩
  have ha1 := U1 _ _ nab ha
  refine ⟨_, rfl, rfl, _, rfl, ?_⟩
  refine ite2 (fun c => ?leafA) (fun c => ⟨_, rfl, rfl, _, rfl, ite2 (fun c2 => ?leafB) (fun c2 => ?rec)⟩)
  case rec =>
    have hn1 : 1 ≤ n := by
      have c' : ¬ (V.int ((n + 1 : Nat) : Int) = V.int 1) := of_decide_eq_false (Bool.eq_false_iff.mpr c)
      rcases Nat.eq_zero_or_pos n with z | z
      · exact absurd (by rw [z]; rfl) c'
      · exact z
    refine ⟨(by show 5 ≤ sizeLine; decide), fun l hl => ?_⟩
    refine ⟨_, rfl, b, 5, k + 2 * tc n + 10, rfl, by decide, by decide, B1.same (same_new hl _), fun d2 H2 b1 b2 B2 U2 => ?_⟩
    obtain ⟨g, eg⟩ := sgs_at b1 b2
    have nlb : l ≠ b := fun e => by obtain ⟨ys, hy⟩ := B1.lst; rw [e, hy] at hl; cases hl
    have hl2 : H2 l = some (.lst (sgs.map fun g => V.str g.txt)) := U2 _ _ nlb upd_same
    refine ⟨l, _, _, _, rfl, rfl, SqL.of hl2, eg, ?_⟩
    have U12 : But b H H2 := U1.trans ((But.new hl _).trans U2)
    have ha2 := U12 _ _ nab ha
    have en : ((n + 1 : Nat) : Int) - 1 = (n : Int) := by omega
    refine ⟨_, rfl, _, rfl, _, rfl, _, rfl, _, _, rfl, rfl, b, a, nm, k + tc n, (by show [V.ref b, V.ref a, V.int (((n + 1 : Nat) : Int) - 1)] = _; rw [en]), ha2, nab, hnl, hnm, hn1, B2.less (by omega), fun v1 e1 H3 t1 o1 B3 U3 => ?_⟩
    have ha3 := U3 _ _ nab ha2
    refine ⟨_, rfl, _, rfl, _, rfl, _, _, rfl, rfl, b, a, nm, k, (by show [V.ref b, V.ref a, V.int (((n + 1 : Nat) : Int) - 1)] = _; rw [en]), ha3, nab, hnl, hnm, hn1, B3, fun v2 e2 H4 t2 o2 B4 U4 => ?_⟩
    refine ⟨(by show 3 ≤ sizeLine; decide), fun p hp => ?_⟩
    obtain ⟨ys, hys⟩ := B3.lst
    have t1' : TrIn H4 e1 v1 := t1.but hys U4
    refine q (.ref p) (.op g e1 e2) _ ⟨p, v1, v2, rfl, upd_same, t1'.same (same_new hp _), t2.same (same_new hp _)⟩ ⟨o1, o2⟩ (B4.same (same_new hp _)) (U12.trans (U3.trans (U4.trans (But.new hp _))))
  all_goals
    refine ⟨fun σ' H' => σ' = [some (.ref b), some (.ref a), some (.int ((n + 1 : Nat) : Int)), some (.int d1), none] ∧ Bag H' b (k + 8) ∧ But b H H', ?_, ?_⟩
    · refine ⟨_, rfl, Nat.zero_le _, fun l hl => ?_⟩
      have sl := same_new hl (.lst [])
      refine ⟨.list (nm.map PyData.str), .list [], .lst (SqL.of (sl _ _ ha1)) (dp_strs nm), .lst (SqL.of upd_same) .nil, shaped_strs hnm, rfl, _, rfl, ?_⟩
      cases hnm' : nm with
      | nil => exact ⟨rfl, (B1.same sl).less (by omega), U1.trans (But.of sl)⟩
      | cons z r =>
        have el : (nm.length : Int) = (z :: r).length := by rw [hnm']
        refine ⟨_, rfl, b, 3, k + 2 * tc n + 10, rfl, by decide, by decide, B1.same sl, fun d2 H2 b1 b2 B2 U2 => ?_⟩
        have U12 : But b H H2 := U1.trans ((But.of sl).trans U2)
        have ha2 : H2 a = some (.lst (nm.map V.str)) := U12 _ _ nab ha
        refine ⟨_, _, rfl, rfl, _, rfl, ?_⟩
        refine ite2 (fun c3 => ?_) (fun c3 => ?_)
        · refine ⟨_, rfl, _, rfl, _, rfl, a, _, rfl, .inl (SqL.of ha2), b, _, k + 2 * tc n + 9, rfl, ?_, ?_, B2, fun d3 H3 e1 e2 B3 U3 => ?_⟩
          · rw [List.length_map, el, List.length_cons]; omega
          · rw [List.length_map]; omega
          · rw [List.length_map] at e2
            obtain ⟨x, ex, hx⟩ := menuS (ns := nm) e1 e2
            refine ⟨a, _, _, _, rfl, rfl, SqL.of (U3 _ _ nab ha2), ex, (by show 2 ≤ sizeLine; decide), fun p hp => ?_⟩
            exact q (.ref p) (.nam x) _ (trNam upd_same) hx ((B3.same (same_new hp _)).less (by omega)) (U12.trans (U3.trans (But.new hp _)))
        · exact ⟨rfl, B2.less (by omega), U12⟩
    · rintro σ' H2 ⟨rfl, B2, U2⟩
      refine ⟨_, rfl, b, k, rfl, B2, fun i H3 i0 i1 B3 U3 => ?_⟩
      refine ⟨(by show 2 ≤ sizeLine; decide), fun p hp => ?_⟩
      exact q (.ref p) (.num i) _ (trNum upd_same) ⟨i0, i1⟩ (B3.same (same_new hp _)) (U2.trans (U3.trans (But.new hp _)))
theorem tree_none {f : Addr} {fd : FuncData} : FnOk P w K mg base CX0 2 f fd ["_law_bag_here", "_law_names_here", "_law_deep"] (spTree 0) := by
  have no : ∀ vs H Q E, ¬ spTree 0 vs H Q E := fun vs H Q E h => by
    obtain ⟨_, _, _, _, _, _, _, _, _, h1, _⟩ := h
    omega
  exact ⟨fun vs H Q E h => absurd h (no vs H Q E), fun A outer s H args us vs Q E _ _ _ _ h => absurd h (no vs H Q E)⟩
theorem trees {f t u : Addr} {fd td ud : FuncData} (F : Fun K "_law_tree" "_law_tree" sTree f fd) (m : mg "_law_tree" = some (.ref f)) (bd : Binds K fd ["_law_bag_here", "_law_names_here", "_law_deep"] []) (TK : Fk P w K mg base 1 "_law_take" t td ["_law_bag_here", "_law_many"] spTake)
    (NB : Fk P w K mg base 2 "_law_number" u ud ["_law_bag_here"] spNumber) (T : Bi mg) : ∀ n : Nat, FnOk P w K mg base CX0 (n + 2) f fd ["_law_bag_here", "_law_names_here", "_law_deep"] (spTree n)
  | 0 => tree_none
  | n + 1 => ok_tree F TK NB ⟨trees F m bd TK NB T n, m, F.kp, bd⟩ T
theorem trees_all {f t u : Addr} {fd td ud : FuncData} (F : Fun K "_law_tree" "_law_tree" sTree f fd) (m : mg "_law_tree" = some (.ref f)) (bd : Binds K fd ["_law_bag_here", "_law_names_here", "_law_deep"] []) (TK : Fk P w K mg base 1 "_law_take" t td ["_law_bag_here", "_law_many"] spTake)
    (NB : Fk P w K mg base 2 "_law_number" u ud ["_law_bag_here"] spNumber) (T : Bi mg) (N : Nat) : FnOk P w K mg base CX0 (N + 2) f fd ["_law_bag_here", "_law_names_here", "_law_deep"] (spTrees N) := by
  refine ⟨fun vs H Q E h => ?_, fun A outer s H args us vs Q E hr he hb hv h => ?_⟩
  · obtain ⟨n, hn, h⟩ := h
    exact (trees (P := P) (w := w) (base := base) F m bd TK NB T n).len vs H Q E h
  · obtain ⟨n, hn, h⟩ := h
    exact (trees (P := P) (w := w) (base := base) F m bd TK NB T n).run A outer s H args us vs Q E (hr.mono (by omega)) he hb hv h
end
end SH

set_option Elab.async false
set_option linter.all false
set_option maxRecDepth 100000
namespace SH
open PySem L2
/-! ### rows and works -/
def NmOk (s : Str) : Prop := nmOk s ∧ s ∉ kept
def Ex.fine : Nat → Ex → Prop
  | 0, _ => False
  | _ + 1, .num i => 0 ≤ i ∧ i < 1000000 ^ 5
  | _ + 1, .nam s => NmOk s
  | n + 1, .op _ l r => Ex.fine n l ∧ Ex.fine n r
theorem Ex.fine_up : ∀ {n m : Nat} {e : Ex}, n ≤ m → Ex.fine n e → Ex.fine m e
  | 0, _, _, _, h => h.elim
  | n + 1, m + 1, .num _, _, h => h
  | n + 1, m + 1, .nam _, _, h => h
  | n + 1, m + 1, .op _ _ _, hm, h => ⟨Ex.fine_up (by omega) h.1, Ex.fine_up (by omega) h.2⟩
theorem Ex.of_fine {nm : List Str} (hn : ∀ s ∈ nm, NmOk s) : ∀ {n : Nat} {e : Ex}, Ex.of nm n e → Ex.fine n e
  | 0, _, h => h
  | n + 1, .num i, h => h
  | n + 1, .nam s, h => hn s h
  | n + 1, .op _ _ _, h => ⟨Ex.of_fine hn h.1, Ex.of_fine hn h.2⟩
theorem Ex.fine_ok : ∀ {n : Nat} {e : Ex}, Ex.fine n e → Ex.ok n e
  | 0, _, h => h
  | n + 1, .num i, h => log_ok h.1 h.2
  | n + 1, .nam s, h => by
    have q := h.1.2.1
    rw [codes_len] at q
    show s.length ≤ 2000
    omega
  | n + 1, .op _ _ _, h => ⟨Ex.fine_ok h.1, Ex.fine_ok h.2⟩
inductive Rs where
  | nil
  | put (x : Str) (e : Ex) (t : Rs)
  | go (w : Bool) (x f : Str) (es : List Ex) (t : Rs)
  | wait (x y : Str) (e : Option Ex) (t : Rs)
  | iff (e : Ex) (a b t : Rs)
  | give (w : Bool) (e : Ex) (t : Rs)
def goW : Bool → Str
  | false => "go"
  | true => "call"
def giveW : Bool → Str
  | false => "give"
  | true => "fail"
def TrsIn (H : Hp) : List Ex → List V → Prop
  | [], vs => vs = []
  | e :: es, vs => ∃ v r, vs = v :: r ∧ TrIn H e v ∧ TrsIn H es r
def OptIn (H : Hp) : Option Ex → V → Prop
  | none, v => v = .non
  | some e, v => TrIn H e v
def RsIn (H : Hp) : Rs → List V → Prop
  | .nil, vs => vs = []
  | .put x e t, vs => ∃ a v r, vs = .ref a :: r ∧ H a = some (.tup [.str "put", .str x, v]) ∧ TrIn H e v ∧ RsIn H t r
  | .go w x f es t, vs => ∃ a p ws r, vs = .ref a :: r ∧ H a = some (.tup [.str (goW w), .str x, .str f, .ref p]) ∧ H p = some (.tup ws) ∧ TrsIn H es ws ∧ RsIn H t r
  | .wait x y oe t, vs => ∃ a v r, vs = .ref a :: r ∧ H a = some (.tup [.str "wait", .str x, .str y, v]) ∧ OptIn H oe v ∧ RsIn H t r
  | .iff e A B t, vs => ∃ a v p xs p' ys r, vs = .ref a :: r ∧ H a = some (.tup [.str "if", v, .ref p, .ref p']) ∧ TrIn H e v ∧ H p = some (.tup xs) ∧ RsIn H A xs ∧ H p' = some (.tup ys) ∧ RsIn H B ys ∧ RsIn H t r
  | .give w e t, vs => ∃ a v r, vs = .ref a :: r ∧ H a = some (.tup [.str (giveW w), v]) ∧ TrIn H e v ∧ RsIn H t r
def Rs.count : Rs → Nat
  | .nil => 0
  | .put _ _ t => 1 + t.count
  | .go _ _ _ _ t => 1 + t.count
  | .wait _ _ _ t => 1 + t.count
  | .iff _ a b t => 1 + a.count + b.count + t.count
  | .give _ _ t => 1 + t.count
def Rs.rc : Rs → Nat
  | .nil => 0
  | .iff _ a b _ => 1 + a.count + b.count
  | _ => 1
def Rs.tl : Rs → Rs
  | .nil => .nil
  | .put _ _ t => t
  | .go _ _ _ _ t => t
  | .wait _ _ _ t => t
  | .iff _ _ _ t => t
  | .give _ _ t => t
theorem Rs.count_eq (r : Rs) : r.count = r.rc + r.tl.count := by cases r <;> rfl
/-- the goes and calls, from the first on -/
def Rs.starts : Rs → List (Str × Nat)
  | .nil => []
  | .put _ _ t => t.starts
  | .go _ _ f es t => (f, es.length) :: t.starts
  | .wait _ _ _ t => t.starts
  | .iff _ a b t => a.starts ++ b.starts ++ t.starts
  | .give _ _ t => t.starts
def Rs.ok : Nat → Rs → Prop
  | _, .nil => True
  | n, .put x e t => NmOk x ∧ Ex.fine 6 e ∧ Rs.ok n t
  | n, .go _ x f es t => NmOk x ∧ NmOk f ∧ es.length ≤ 4 ∧ (∀ e ∈ es, Ex.fine 6 e) ∧ Rs.ok n t
  | n, .wait x y oe t => NmOk x ∧ NmOk y ∧ (∀ e, oe = some e → Ex.fine 6 e) ∧ Rs.ok n t
  | n, .iff e a b t => 1 ≤ n ∧ Ex.fine 6 e ∧ Rs.ok (n - 1) a ∧ Rs.ok (n - 1) b ∧ Rs.ok n t
  | n, .give _ e t => Ex.fine 6 e ∧ Rs.ok n t
theorem Rs.ok_tl {n : Nat} : ∀ {r : Rs}, Rs.ok n r → Rs.ok n r.tl
  | .nil, _ => trivial
  | .put _ _ _, h => h.2.2
  | .go _ _ _ _ _, h => h.2.2.2.2
  | .wait _ _ _ _, h => h.2.2.2
  | .iff _ _ _ _, h => h.2.2.2.2
  | .give _ _ _, h => h.2
theorem RsIn.tl {H : Hp} : ∀ {r : Rs} {v : V} {vs : List V}, RsIn H r (v :: vs) → RsIn H r.tl vs
  | .nil, _, _, h => by cases h
  | .put _ _ _, _, _, ⟨a, v, r, e, _, _, h⟩ => by cases e; exact h
  | .go _ _ _ _ _, _, _, ⟨a, p, ws, r, e, _, _, _, h⟩ => by cases e; exact h
  | .wait _ _ _ _, _, _, ⟨a, v, r, e, _, _, h⟩ => by cases e; exact h
  | .iff _ _ _ _, _, _, ⟨a, v, p, xs, p', ys, r, e, _, _, _, _, _, _, h⟩ => by cases e; exact h
  | .give _ _ _, _, _, ⟨a, v, r, e, _, _, h⟩ => by cases e; exact h
theorem Rs.rc_pos {H : Hp} : ∀ {r : Rs} {v : V} {vs : List V}, RsIn H r (v :: vs) → 1 ≤ r.rc
  | .nil, _, _, h => by cases h
  | .put _ _ _, _, _, _ => Nat.le_refl _
  | .go _ _ _ _ _, _, _, _ => Nat.le_refl _
  | .wait _ _ _ _, _, _, _ => Nat.le_refl _
  | .iff _ a b _, _, _, _ => by show 1 ≤ 1 + a.count + b.count; omega
  | .give _ _ _, _, _, _ => Nat.le_refl _
/-! ### a name of the module that holds a number -/
end SH

set_option Elab.async false
set_option linter.all false
set_option maxRecDepth 100000
namespace SH
open PySem L2
def Rs.isIf : Rs → Bool
  | .iff _ _ _ _ => true
  | _ => false
theorem TrsIn.same {H H' : Hp} (h : Same H H') : ∀ {es : List Ex} {vs : List V}, TrsIn H es vs → TrsIn H' es vs
  | [], _, q => q
  | _ :: _, _, ⟨v, r, e, t, q⟩ => ⟨v, r, e, t.same h, TrsIn.same h q⟩
theorem OptIn.same {H H' : Hp} (h : Same H H') : ∀ {e : Option Ex} {v : V}, OptIn H e v → OptIn H' e v
  | none, _, q => q
  | some _, _, q => TrIn.same h q
theorem RsIn.same {H H' : Hp} (h : Same H H') : ∀ {r : Rs} {vs : List V}, RsIn H r vs → RsIn H' r vs
  | .nil, _, q => q
  | .put _ _ _, _, ⟨a, v, r, e, k, t, q⟩ => ⟨a, v, r, e, h _ _ k, t.same h, RsIn.same h q⟩
  | .go _ _ _ _ _, _, ⟨a, p, ws, r, e, k, k2, t, q⟩ => ⟨a, p, ws, r, e, h _ _ k, h _ _ k2, t.same h, RsIn.same h q⟩
  | .wait _ _ _ _, _, ⟨a, v, r, e, k, t, q⟩ => ⟨a, v, r, e, h _ _ k, t.same h, RsIn.same h q⟩
  | .iff _ _ _ _, _, ⟨a, v, p, xs, p', ys, r, e, k, t, k1, q1, k2, q2, q⟩ => ⟨a, v, p, xs, p', ys, r, e, h _ _ k, t.same h, h _ _ k1, RsIn.same h q1, h _ _ k2, RsIn.same h q2, RsIn.same h q⟩
  | .give _ _ _, _, ⟨a, v, r, e, k, t, q⟩ => ⟨a, v, r, e, h _ _ k, t.same h, RsIn.same h q⟩
theorem TrIn.updl {H : Hp} {b : Addr} {ys zs : List V} (hb : H b = some (.lst ys)) {e : Ex} {v : V} (h : TrIn H e v) : TrIn (upd H b (.lst zs)) e v :=
  h.but hb fun a o na q => by rw [upd_ne na]; exact q
theorem TrsIn.updl {H : Hp} {b : Addr} {ys zs : List V} (hb : H b = some (.lst ys)) : ∀ {es : List Ex} {vs : List V}, TrsIn H es vs → TrsIn (upd H b (.lst zs)) es vs
  | [], _, q => q
  | _ :: _, _, ⟨v, r, e, t, q⟩ => ⟨v, r, e, t.updl hb, TrsIn.updl hb q⟩
theorem OptIn.updl {H : Hp} {b : Addr} {ys zs : List V} (hb : H b = some (.lst ys)) : ∀ {e : Option Ex} {v : V}, OptIn H e v → OptIn (upd H b (.lst zs)) e v
  | none, _, q => q
  | some _, _, q => TrIn.updl hb q
theorem tup_updl {H : Hp} {a b : Addr} {xs ys zs : List V} (hb : H b = some (.lst ys)) (h : H a = some (.tup xs)) : (upd H b (.lst zs)) a = some (.tup xs) := by
  rw [upd_ne (lst_ne h hb)]
  exact h
theorem RsIn.upd_lst {H : Hp} {b : Addr} {ys zs : List V} (hb : H b = some (.lst ys)) : ∀ {r : Rs} {vs : List V}, RsIn H r vs → RsIn (upd H b (.lst zs)) r vs
  | .nil, _, q => q
  | .put _ _ _, _, ⟨a, v, r, e, k, t, q⟩ => ⟨a, v, r, e, tup_updl hb k, t.updl hb, RsIn.upd_lst hb q⟩
  | .go _ _ _ _ _, _, ⟨a, p, ws, r, e, k, k2, t, q⟩ => ⟨a, p, ws, r, e, tup_updl hb k, tup_updl hb k2, t.updl hb, RsIn.upd_lst hb q⟩
  | .wait _ _ _ _, _, ⟨a, v, r, e, k, t, q⟩ => ⟨a, v, r, e, tup_updl hb k, t.updl hb, RsIn.upd_lst hb q⟩
  | .iff _ _ _ _, _, ⟨a, v, p, xs, p', ys', r, e, k, t, k1, q1, k2, q2, q⟩ => ⟨a, v, p, xs, p', ys', r, e, tup_updl hb k, t.updl hb, tup_updl hb k1, RsIn.upd_lst hb q1, tup_updl hb k2, RsIn.upd_lst hb q2, RsIn.upd_lst hb q⟩
  | .give _ _ _, _, ⟨a, v, r, e, k, t, q⟩ => ⟨a, v, r, e, tup_updl hb k, t.updl hb, RsIn.upd_lst hb q⟩
theorem TrsIn.snoc {H : Hp} {e : Ex} {v : V} (h : TrIn H e v) : ∀ {es : List Ex} {vs : List V}, TrsIn H es vs → TrsIn H (es ++ [e]) (vs ++ [v])
  | [], _, q => by cases q; exact ⟨v, [], rfl, h, rfl⟩
  | _ :: _, _, ⟨v', r, e', t, q⟩ => by cases e'; exact ⟨v', _, rfl, t, TrsIn.snoc h q⟩
theorem TrsIn.len {H : Hp} : ∀ {es : List Ex} {vs : List V}, TrsIn H es vs → vs.length = es.length
  | [], _, q => by cases q; rfl
  | _ :: _, _, ⟨v, r, e, t, q⟩ => by cases e; exact congrArg Nat.succ (TrsIn.len q)
theorem TrsIn.get_ {H : Hp} : ∀ {es : List Ex} {vs : List V} {i : Nat} {v : V}, TrsIn H es vs → vs[i]? = some v → ∃ e, es[i]? = some e ∧ TrIn H e v
  | [], _, i, v, q, h => by cases q; simp at h
  | _ :: _, _, 0, v, ⟨v', r, e, t, q⟩, h => by cases e; cases h; exact ⟨_, rfl, t⟩
  | _ :: _, _, i + 1, v, ⟨v', r, e, t, q⟩, h => by cases e; have z := TrsIn.get_ (i := i) q h; exact z
structure Wk where
  name : Str
  names : List Str
  room : Int
  rows : Rs
def WkIn (H : Hp) (W : Wk) (v : V) : Prop := ∃ (a pn pr : Addr) (xs : List V), v = .ref a ∧ H a = some (.tup [.str "work", .str W.name, .ref pn, .int W.room, .ref pr]) ∧ H pn = some (.tup (W.names.map V.str)) ∧ H pr = some (.tup xs) ∧ RsIn H W.rows xs
structure Wk.ok (W : Wk) : Prop where
  name : NmOk W.name
  few : W.names.length ≤ 4
  names : ∀ s ∈ W.names, NmOk s
  nd : W.names.Nodup
  room0 : 0 ≤ W.room
  room1 : W.room ≤ 1000
  rows : Rs.ok 3 W.rows
  count : W.rows.count ≤ 40
theorem WkIn.same {H H' : Hp} {W : Wk} {v : V} (h : Same H H') : WkIn H W v → WkIn H' W v
  | ⟨a, pn, pr, xs, e, k1, k2, k3, q⟩ => ⟨a, pn, pr, xs, e, h _ _ k1, h _ _ k2, h _ _ k3, q.same h⟩
theorem all_true (n : Nat) : (List.replicate n true).all id = true := by
  rw [List.all_eq_true]
  intro x hx
  exact (List.mem_replicate.mp hx).2
end SH

set_option Elab.async false
set_option linter.all false
set_option maxRecDepth 100000
namespace SH
open PySem L2
/-- over a list that stays -/
theorem txc_list {Pr : Program} {w : World} {K : PySem.W.Frag} {a : Addr} {xs : List V} {g : TG} {te : TE} {vs : List Nat} {σ : St} {H1 : Hp} {D : Addr} {Qd : Hp → Prop} (Pv : Nat → Hp → Prop) (h0 : Pv 0 (upd H1 D (TxtO Pr w D []))) (hl : ∀ i H, i ≤ xs.length → Pv i H → SqL K H a xs)
    (hs : ∀ i x H, xs[i]? = some x → Pv i H → g x (wipe σ vs) H fun σ2 H2 => wipe σ2 vs = wipe σ vs ∧ te σ2 H2 fun y H4 => ∃ (z : Str) (l : List Str), y = .str z ∧ H4 D = some (TxtO Pr w D l) ∧ l.length + 1 < scanBound ∧ Pv (i + 1) (upd H4 D (TxtO Pr w D (SHSet.addT l z)))) (hd : ∀ H, Pv xs.length H → Qd H) :
    ∃ W : Nat → Nat → Hp → Prop, (∃ m, W 0 m (upd H1 D (TxtO Pr w D []))) ∧ ∀ i m H, W i m H → ((Itl K a).stop i H ∧ Qd H) ∨ ((Itl K a).go i H ∧ ∃ Nx : Hp → Prop, (∀ H', Nx H' → ∃ m', m' < m ∧ W (i + 1) m' H') ∧
      ∀ x H', (Itl K a).yld i H x H' → g x (wipe σ vs) H' fun σ2 H2 => wipe σ2 vs = wipe σ vs ∧ te σ2 H2 fun y H4 => ∃ (z : Str) (l : List Str), y = .str z ∧ H4 D = some (TxtO Pr w D l) ∧ l.length + 1 < scanBound ∧ Nx (upd H4 D (TxtO Pr w D (SHSet.addT l z)))) := by
  refine ⟨fun i m H => m + i = xs.length ∧ Pv i H, ⟨xs.length, Nat.add_zero _, h0⟩, ?_⟩
  rintro i m H ⟨e, p⟩
  have q := hl i H (by omega) p
  rcases Nat.eq_zero_or_pos m with z | z
  · exact .inl ⟨⟨xs, q, by omega⟩, hd H (by rw [show xs.length = i by omega]; exact p)⟩
  · have lt : i < xs.length := by omega
    exact .inr ⟨⟨xs, xs[i], q, List.getElem?_eq_getElem lt⟩, Pv (i + 1), fun H' p' => ⟨m - 1, by omega, by omega, p'⟩, fun x H' y => y.1 ▸ hs i x H (y.2 xs q) p⟩
theorem dc_list {K : PySem.W.Frag} {a : Addr} {xs : List V} {g : TG} {tk tv : TE} {vs : List Nat} {σ : St} {H1 : Hp} {D : Addr} {Qd : Hp → Prop} (Pv : Nat → Hp → Prop) (h0 : Pv 0 (upd H1 D (.dK []))) (hl : ∀ i H, i ≤ xs.length → Pv i H → SqL K H a xs)
    (hs : ∀ i x H, xs[i]? = some x → Pv i H → g x (wipe σ vs) H fun σ2 H2 => wipe σ2 vs = wipe σ vs ∧ tYes σ2 H2 fun b H3 => if b = true then tk σ2 H3 fun y H4 => tv σ2 H4 fun z H5 => ∃ kvs k, y = kV k ∧ H5 D = some (.dK kvs) ∧ kvs.length < sizeLine ∧ Pv (i + 1) (upd H5 D (.dK (putK kvs k z))) else Pv (i + 1) H3) (hd : ∀ H, Pv xs.length H → Qd H) :
    ∃ W : Nat → Nat → Hp → Prop, (∃ m, W 0 m (upd H1 D (.dK []))) ∧ ∀ i m H, W i m H → ((Itl K a).stop i H ∧ Qd H) ∨ ((Itl K a).go i H ∧ ∃ Nx : Hp → Prop, (∀ H', Nx H' → ∃ m', m' < m ∧ W (i + 1) m' H') ∧
      ∀ x H', (Itl K a).yld i H x H' → g x (wipe σ vs) H' fun σ2 H2 => wipe σ2 vs = wipe σ vs ∧ tYes σ2 H2 fun b H3 => if b = true then tk σ2 H3 fun y H4 => tv σ2 H4 fun z H5 => ∃ kvs k, y = kV k ∧ H5 D = some (.dK kvs) ∧ kvs.length < sizeLine ∧ Nx (upd H5 D (.dK (putK kvs k z))) else Nx H3) := by
  refine ⟨fun i m H => m + i = xs.length ∧ Pv i H, ⟨xs.length, Nat.add_zero _, h0⟩, ?_⟩
  rintro i m H ⟨e, p⟩
  have q := hl i H (by omega) p
  rcases Nat.eq_zero_or_pos m with z | z
  · exact .inl ⟨⟨xs, q, by omega⟩, hd H (by rw [show xs.length = i by omega]; exact p)⟩
  · have lt : i < xs.length := by omega
    exact .inr ⟨⟨xs, xs[i], q, List.getElem?_eq_getElem lt⟩, Pv (i + 1), fun H' p' => ⟨m - 1, by omega, by omega, p'⟩, fun x H' y => y.1 ▸ hs i x H (y.2 xs q) p⟩
/-! ### rows one behind another -/
def Rs.app : Rs → Rs → Rs
  | .nil, b => b
  | .put x e t, b => .put x e (t.app b)
  | .go w x f es t, b => .go w x f es (t.app b)
  | .wait x y e t, b => .wait x y e (t.app b)
  | .iff e p q t, b => .iff e p q (t.app b)
  | .give w e t, b => .give w e (t.app b)
theorem Rs.app_starts (b : Rs) : ∀ a : Rs, (a.app b).starts = a.starts ++ b.starts
  | .nil => rfl
  | .put _ _ t => Rs.app_starts b t
  | .go _ _ f es t => by show (f, es.length) :: (t.app b).starts = _; rw [Rs.app_starts b t]; rfl
  | .wait _ _ _ t => Rs.app_starts b t
  | .iff _ p q t => by show p.starts ++ q.starts ++ (t.app b).starts = p.starts ++ q.starts ++ t.starts ++ b.starts; rw [Rs.app_starts b t, List.append_assoc (p.starts ++ q.starts)]
  | .give _ _ t => Rs.app_starts b t
theorem Rs.app_ok {n : Nat} {b : Rs} (hb : Rs.ok n b) : ∀ {a : Rs}, Rs.ok n a → Rs.ok n (a.app b)
  | .nil, _ => hb
  | .put _ _ _, h => ⟨h.1, h.2.1, Rs.app_ok hb h.2.2⟩
  | .go _ _ _ _ _, h => ⟨h.1, h.2.1, h.2.2.1, h.2.2.2.1, Rs.app_ok hb h.2.2.2.2⟩
  | .wait _ _ _ _, h => ⟨h.1, h.2.1, h.2.2.1, Rs.app_ok hb h.2.2.2⟩
  | .iff _ _ _ _, h => ⟨h.1, h.2.1, h.2.2.1, h.2.2.2.1, Rs.app_ok hb h.2.2.2.2⟩
  | .give _ _ _, h => ⟨h.1, Rs.app_ok hb h.2⟩
theorem RsIn.app {H : Hp} {b : Rs} {ys : List V} (hb : RsIn H b ys) : ∀ {a : Rs} {xs : List V}, RsIn H a xs → RsIn H (a.app b) (xs ++ ys)
  | .nil, _, h => by cases h; exact hb
  | .put _ _ _, _, ⟨a, v, r, e, k, t, q⟩ => by cases e; exact ⟨a, v, _, rfl, k, t, RsIn.app hb q⟩
  | .go _ _ _ _ _, _, ⟨a, p, ws, r, e, k, k2, t, q⟩ => by cases e; exact ⟨a, p, ws, _, rfl, k, k2, t, RsIn.app hb q⟩
  | .wait _ _ _ _, _, ⟨a, v, r, e, k, t, q⟩ => by cases e; exact ⟨a, v, _, rfl, k, t, RsIn.app hb q⟩
  | .iff _ _ _ _, _, ⟨a, v, p, xs, p', ys, r, e, k, t, k1, q1, k2, q2, q⟩ => by cases e; exact ⟨a, v, p, xs, p', ys, _, rfl, k, t, k1, q1, k2, q2, RsIn.app hb q⟩
  | .give _ _ _, _, ⟨a, v, r, e, k, t, q⟩ => by cases e; exact ⟨a, v, _, rfl, k, t, RsIn.app hb q⟩
theorem RsIn.len {H : Hp} : ∀ {a : Rs} {xs : List V}, RsIn H a xs → xs.length ≤ a.count
  | .nil, _, h => by cases h; exact Nat.le_refl _
  | .put _ _ t, _, ⟨a, v, r, e, k, _, q⟩ => by cases e; have := RsIn.len q; show _ + 1 ≤ 1 + t.count; omega
  | .go _ _ _ _ t, _, ⟨a, p, ws, r, e, k, k2, _, q⟩ => by cases e; have := RsIn.len q; show _ + 1 ≤ 1 + t.count; omega
  | .wait _ _ _ t, _, ⟨a, v, r, e, k, _, q⟩ => by cases e; have := RsIn.len q; show _ + 1 ≤ 1 + t.count; omega
  | .iff _ A B t, _, ⟨a, v, p, xs, p', ys, r, e, k, _, k1, q1, k2, q2, q⟩ => by cases e; have := RsIn.len q; show _ + 1 ≤ 1 + A.count + B.count + t.count; omega
  | .give _ _ t, _, ⟨a, v, r, e, k, _, q⟩ => by cases e; have := RsIn.len q; show _ + 1 ≤ 1 + t.count; omega
theorem Rs.starts_le : ∀ a : Rs, a.starts.length ≤ a.count
  | .nil => Nat.le_refl _
  | .put _ _ t => by have := Rs.starts_le t; show t.starts.length ≤ 1 + t.count; omega
  | .go _ _ _ _ t => by have := Rs.starts_le t; show t.starts.length + 1 ≤ 1 + t.count; omega
  | .wait _ _ _ t => by have := Rs.starts_le t; show t.starts.length ≤ 1 + t.count; omega
  | .iff _ a b t => by
    have := Rs.starts_le t; have := Rs.starts_le a; have := Rs.starts_le b
    show (a.starts ++ b.starts ++ t.starts).length ≤ 1 + a.count + b.count + t.count
    rw [List.length_append, List.length_append]; omega
  | .give _ _ t => by have := Rs.starts_le t; show t.starts.length ≤ 1 + t.count; omega
theorem Rs.app_count (b : Rs) : ∀ a : Rs, (a.app b).count = a.count + b.count
  | .nil => (Nat.zero_add _).symm
  | .put _ _ t => by show 1 + (t.app b).count = 1 + t.count + b.count; rw [Rs.app_count b t]; omega
  | .go _ _ _ _ t => by show 1 + (t.app b).count = 1 + t.count + b.count; rw [Rs.app_count b t]; omega
  | .wait _ _ _ t => by show 1 + (t.app b).count = 1 + t.count + b.count; rw [Rs.app_count b t]; omega
  | .iff _ p q t => by show 1 + p.count + q.count + (t.app b).count = 1 + p.count + q.count + t.count + b.count; rw [Rs.app_count b t]; omega
  | .give _ _ t => by show 1 + (t.app b).count = 1 + t.count + b.count; rw [Rs.app_count b t]; omega
/-! ### goes and calls as they lie -/
def StAt (H : Hp) (st : Str × Nat) (v : V) : Prop := ∃ (a : Addr) (wd x : V) (p : Addr) (ws : List V), v = .ref a ∧ H a = some (.tup [wd, x, .str st.1, .ref p]) ∧ H p = some (.tup ws) ∧ ws.length = st.2
theorem StAt.same {H H' : Hp} {st : Str × Nat} {v : V} (h : Same H H') : StAt H st v → StAt H' st v
  | ⟨a, wd, x, p, ws, e, k1, k2, l⟩ => ⟨a, wd, x, p, ws, e, h _ _ k1, h _ _ k2, l⟩
def StsAt (H : Hp) (sts : List (Str × Nat)) (vs : List V) : Prop := vs.length = sts.length ∧ ∀ (i : Nat) (st : Str × Nat) (v : V), sts[i]? = some st → vs[i]? = some v → StAt H st v
theorem StsAt.same {H H' : Hp} {sts : List (Str × Nat)} {vs : List V} (h : Same H H') (q : StsAt H sts vs) : StsAt H' sts vs := ⟨q.1, fun i st v a b => (q.2 i st v a b).same h⟩
theorem StsAt.app {H : Hp} {s1 s2 : List (Str × Nat)} {v1 v2 : List V} (a : StsAt H s1 v1) (b : StsAt H s2 v2) : StsAt H (s1 ++ s2) (v1 ++ v2) := by
  refine ⟨by rw [List.length_append, List.length_append, a.1, b.1], fun i st v h1 h2 => ?_⟩
  by_cases hi : i < s1.length
  · rw [List.getElem?_append_left hi] at h1
    rw [List.getElem?_append_left (by rw [a.1]; exact hi)] at h2
    exact a.2 i st v h1 h2
  · rw [List.getElem?_append_right (by omega)] at h1
    rw [List.getElem?_append_right (by rw [a.1]; omega), a.1] at h2
    exact b.2 _ st v h1 h2
theorem StsAt.one {H : Hp} {st : Str × Nat} {v : V} (h : StAt H st v) : StsAt H [st] [v] := ⟨rfl, fun i st' v' h1 h2 => by
  cases i with
  | zero => cases h1; cases h2; exact h
  | succ i => simp at h1⟩
theorem StAt.upd_lst {H : Hp} {b : Addr} {ys zs : List V} (hb : H b = some (.lst ys)) {st : Str × Nat} {v : V} : StAt H st v → StAt (upd H b (.lst zs)) st v
  | ⟨a, wd, x, p, ws, e, k1, k2, l⟩ => ⟨a, wd, x, p, ws, e, by rw [upd_ne (lst_ne k1 hb)]; exact k1, by rw [upd_ne (lst_ne k2 hb)]; exact k2, l⟩
theorem StsAt.upd_lst {H : Hp} {b : Addr} {ys zs : List V} (hb : H b = some (.lst ys)) {sts : List (Str × Nat)} {vs : List V} (q : StsAt H sts vs) : StsAt (upd H b (.lst zs)) sts vs := ⟨q.1, fun i st v a c => (q.2 i st v a c).upd_lst hb⟩
def WksIn (H : Hp) (Ws : List Wk) (vs : List V) : Prop := vs.length = Ws.length ∧ ∀ (i : Nat) (v : V), vs[i]? = some v → ∃ W, Ws[i]? = some W ∧ WkIn H W v
theorem WksIn.same {H H' : Hp} {Ws : List Wk} {vs : List V} (h : Same H H') (q : WksIn H Ws vs) : WksIn H' Ws vs := ⟨q.1, fun i v e => by
  obtain ⟨W, a, b⟩ := q.2 i v e
  exact ⟨W, a, b.same h⟩⟩
structure WksOk (Ws : List Wk) : Prop where
  few : Ws.length ≤ 12
  each : ∀ W ∈ Ws, W.ok
  nd : (Ws.map Wk.name).Nodup
  starts : ∀ W ∈ Ws, ∀ st ∈ W.rows.starts, ∃ W' ∈ Ws, W'.name = st.1 ∧ W'.names.length = st.2
end SH

set_option Elab.async false
set_option linter.all false
set_option maxRecDepth 100000
namespace SH
open PySem L2
abbrev sRow : Stmt := topS 11
abbrev sRows : Stmt := topS 12
theorem scRow : FnScope ["_law_bag_here", "_law_state", "_law_nested", "_law_names_here", "_law_titles", "_law_one", "_law_other", "_law_way", "_law_title", "_law_many", "_law_trees", "_law_tree_here", "_law_k"] ["_law_bag_here", "_law_state", "_law_nested"] (defScope sRow) := ⟨rfl, rfl, rfl, by decide +kernel, rfl, by decide +kernel, by decide +kernel⟩
theorem scRows : FnScope ["_law_bag_here", "_law_state", "_law_nested", "_law_many", "_law_k"] ["_law_bag_here", "_law_state", "_law_nested"] (defScope sRows) := ⟨rfl, rfl, rfl, by decide +kernel, rfl, by decide +kernel, by decide +kernel⟩
/-! ### tuples stay -/
def KeepT (H H' : Hp) : Prop := ∀ a xs, H a = some (.tup xs) → H' a = some (.tup xs)
theorem KeepT.of {H H' : Hp} (h : Same H H') : KeepT H H' := fun a xs e => h a _ e
theorem KeepT.trans {H H1 H2 : Hp} (h : KeepT H H1) (k : KeepT H1 H2) : KeepT H H2 := fun a xs e => k a xs (h a xs e)
theorem TrIn.keep {H H' : Hp} (h : KeepT H H') : ∀ {e : Ex} {v : V}, TrIn H e v → TrIn H' e v
  | .num n, v, ⟨a, e, k⟩ => ⟨a, e, h _ _ k⟩
  | .nam n, v, ⟨a, e, k⟩ => ⟨a, e, h _ _ k⟩
  | .op g l r, v, ⟨a, x, y, e, k, p, q⟩ => ⟨a, x, y, e, h _ _ k, TrIn.keep h p, TrIn.keep h q⟩
theorem TrsIn.keep {H H' : Hp} (h : KeepT H H') : ∀ {es : List Ex} {vs : List V}, TrsIn H es vs → TrsIn H' es vs
  | [], _, q => q
  | _ :: _, _, ⟨v, r, e, t, q⟩ => ⟨v, r, e, t.keep h, TrsIn.keep h q⟩
theorem OptIn.keep {H H' : Hp} (h : KeepT H H') : ∀ {e : Option Ex} {v : V}, OptIn H e v → OptIn H' e v
  | none, _, q => q
  | some _, _, q => TrIn.keep h q
theorem RsIn.keep {H H' : Hp} (h : KeepT H H') : ∀ {r : Rs} {vs : List V}, RsIn H r vs → RsIn H' r vs
  | .nil, _, q => q
  | .put _ _ _, _, ⟨a, v, r, e, k, t, q⟩ => ⟨a, v, r, e, h _ _ k, t.keep h, RsIn.keep h q⟩
  | .go _ _ _ _ _, _, ⟨a, p, ws, r, e, k, k2, t, q⟩ => ⟨a, p, ws, r, e, h _ _ k, h _ _ k2, t.keep h, RsIn.keep h q⟩
  | .wait _ _ _ _, _, ⟨a, v, r, e, k, t, q⟩ => ⟨a, v, r, e, h _ _ k, t.keep h, RsIn.keep h q⟩
  | .iff _ _ _ _, _, ⟨a, v, p, xs, p', ys, r, e, k, t, k1, q1, k2, q2, q⟩ => ⟨a, v, p, xs, p', ys, r, e, h _ _ k, t.keep h, h _ _ k1, RsIn.keep h q1, h _ _ k2, RsIn.keep h q2, RsIn.keep h q⟩
  | .give _ _ _, _, ⟨a, v, r, e, k, t, q⟩ => ⟨a, v, r, e, h _ _ k, t.keep h, RsIn.keep h q⟩
theorem WkIn.keep {H H' : Hp} {W : Wk} {v : V} (h : KeepT H H') : WkIn H W v → WkIn H' W v
  | ⟨a, pn, pr, xs, e, k1, k2, k3, q⟩ => ⟨a, pn, pr, xs, e, h _ _ k1, h _ _ k2, h _ _ k3, q.keep h⟩
theorem WksIn.keep {H H' : Hp} {Ws : List Wk} {vs : List V} (h : KeepT H H') (q : WksIn H Ws vs) : WksIn H' Ws vs := ⟨q.1, fun i v e => by
  obtain ⟨W, a, b⟩ := q.2 i v e
  exact ⟨W, a, b.keep h⟩⟩
/-- all but what stands at b and d -/
def But2 (b d : Addr) (H H' : Hp) : Prop := ∀ a o, a ≠ b → a ≠ d → H a = some o → H' a = some o
theorem But2.of {b d : Addr} {H H' : Hp} (h : Same H H') : But2 b d H H' := fun a o _ _ e => h a o e
theorem But2.but {b d : Addr} {H H' : Hp} (h : But b H H') : But2 b d H H' := fun a o n _ e => h a o n e
theorem But2.trans {b d : Addr} {H H1 H2 : Hp} (h : But2 b d H H1) (k : But2 b d H1 H2) : But2 b d H H2 := fun a o n m e => k a o n m (h a o n m e)
theorem KeepT.but {b : Addr} {ys : List V} {H H' : Hp} (hb : H b = some (.lst ys)) (h : But b H H') : KeepT H H' := fun a xs e => h a _ (lst_ne e hb) e
theorem KeepT.but2 {b d : Addr} {ys : List V} {kvs : List (Key × V)} {H H' : Hp} (hb : H b = some (.lst ys)) (hd : H d = some (.dK kvs)) (h : But2 b d H H') : KeepT H H' := fun a xs e => h a _ (lst_ne e hb) (fun z => by rw [z, hd] at e; cases e) e
theorem KeepT.upd {H : Hp} {b : Addr} {o o' : HO} (hb : H b = some o) (ho : ∀ xs, o ≠ .tup xs) : KeepT H (upd H b o') := fun a xs e => by
  rw [upd_ne (fun z => by rw [z, hb] at e; exact ho xs (Option.some.inj e))]
  exact e
/-! ### what rows are drawn by -/
def TisIn (H : Hp) (ti : List (Str × Nat)) (vs : List V) : Prop := vs.length = ti.length ∧ ∀ (i : Nat) (v : V), vs[i]? = some v → ∃ t, ti[i]? = some t ∧ ∃ p, v = .ref p ∧ H p = some (.tup [.str t.1, .int (t.2 : Nat)])
structure RC (H : Hp) (b sd an at_ : Addr) (nm : List Str) (ti : List (Str × Nat)) : Prop where
  names : H an = some (.lst (nm.map V.str))
  titles : ∃ tvs, H at_ = some (.lst tvs) ∧ TisIn H ti tvs
  nb : an ≠ b
  tb : at_ ≠ b
  nm1 : 1 ≤ nm.length
  nm2 : nm.length ≤ 1000
  nmk : ∀ s ∈ nm, NmOk s
  ti1 : 1 ≤ ti.length
  ti2 : ti.length ≤ 1000
  tik : ∀ t ∈ ti, NmOk t.1 ∧ t.2 ≤ 4
def stK (an at_ : Addr) (L : Nat) : List (Key × V) := [(Sum.inr "names", .ref an), (Sum.inr "titles", .ref at_), (Sum.inr "left", .int (L : Nat))]
def StL (H : Hp) (sd an at_ : Addr) (L : Nat) : Prop := H sd = some (.dK (stK an at_ L))
theorem k_nl : ("names" : Str) ≠ "left" := by decide +kernel
theorem k_tl : ("titles" : Str) ≠ "left" := by decide +kernel
theorem k_nt : ("names" : Str) ≠ "titles" := by decide +kernel
theorem st_names (an at_ : Addr) (L : Nat) : valV (stK an at_ L) (Sum.inr "names") = some (.ref an) := valV_pos rfl
theorem st_titles (an at_ : Addr) (L : Nat) : valV (stK an at_ L) (Sum.inr "titles") = some (.ref at_) := by
  unfold stK
  rw [valV_neg (fun z => k_nt (Sum.inr.inj z))]
  exact valV_pos rfl
theorem st_left (an at_ : Addr) (L : Nat) : valV (stK an at_ L) (Sum.inr "left") = some (.int (L : Nat)) := by
  unfold stK
  have h1 : ¬ ((Sum.inr "names" : Key) = (Sum.inr "left" : Key)) := by
    intro z
    exact k_nl (Sum.inr.inj z)
  have h2 : ¬ ((Sum.inr "titles" : Key) = (Sum.inr "left" : Key)) := by
    intro z
    exact k_tl (Sum.inr.inj z)
  rw [valV_neg h1, valV_neg h2]
  exact valV_pos rfl
theorem st_put (an at_ : Addr) (L M : Nat) : putK (stK an at_ L) (Sum.inr "left") (.int (M : Nat)) = stK an at_ M := by
  unfold putK stK
  have h1 : ¬ ((Sum.inr "names" : Key) = (Sum.inr "left" : Key)) := by
    intro z
    exact k_nl (Sum.inr.inj z)
  have h2 : ¬ ((Sum.inr "titles" : Key) = (Sum.inr "left" : Key)) := by
    intro z
    exact k_tl (Sum.inr.inj z)
  simp [h1, h2, k_nl, k_tl]
theorem StL.get {H : Hp} {sd an at_ : Addr} {L : Nat} (h : StL H sd an at_ L) : DGet H sd (.str "names") (some (.ref an)) ∧ DGet H sd (.str "titles") (some (.ref at_)) ∧ DGet H sd (.str "left") (some (.int (L : Nat))) := by
  have k := fun x : Str => DGet.k (k := Sum.inr x) (show H sd = some (.dK (stK an at_ L)) from h)
  have k1 := k "names"
  have k2 := k "titles"
  have k3 := k "left"
  rw [st_names] at k1
  rw [st_titles] at k2
  rw [st_left] at k3
  exact ⟨k1, k2, k3⟩
theorem StL.same {H H' : Hp} {sd an at_ : Addr} {L : Nat} (s : Same H H') (h : StL H sd an at_ L) : StL H' sd an at_ L := s _ _ h
theorem StL.but {H H' : Hp} {b sd an at_ : Addr} {L : Nat} {ys : List V} (hb : H b = some (.lst ys)) (u : But b H H') (h : StL H sd an at_ L) : StL H' sd an at_ L := u _ _ (fun z => by unfold StL at h; rw [z, hb] at h; cases h) h
theorem RC.move {H H' : Hp} {b sd an at_ : Addr} {nm : List Str} {ti : List (Str × Nat)} {L : Nat} (r : RC H b sd an at_ nm ti) (hs : StL H sd an at_ L) (hb : ∃ ys, H b = some (.lst ys)) (u : But2 b sd H H') : RC H' b sd an at_ nm ti := by
  obtain ⟨ys, hb⟩ := hb
  have kt : KeepT H H' := .but2 hb hs u
  have ns : ∀ (a : Addr) (xs : List V), H a = some (.lst xs) → a ≠ sd := fun a xs e z => by
    unfold StL at hs
    rw [z, hs] at e
    cases e
  obtain ⟨tvs, h1, h2⟩ := r.titles
  refine ⟨u _ _ r.nb (ns _ _ r.names) r.names, ⟨tvs, u _ _ r.tb (ns _ _ h1) h1, h2.1, fun i v e => ?_⟩, r.nb, r.tb, r.nm1, r.nm2, r.nmk, r.ti1, r.ti2, r.tik⟩
  obtain ⟨t, e1, p, e2, e3⟩ := h2.2 i v e
  exact ⟨t, e1, p, e2, kt _ _ e3⟩
def mm : Nat → Nat
  | 0 => 2
  | 1 => 2
  | 2 => 3
  | _ => 11
def rcd : Nat → Nat
  | 0 => 800
  | d + 1 => 800 + 2 * (1 + mm d * rcd d)
theorem rcd_ge (d : Nat) : 800 ≤ rcd d := by
  cases d with
  | zero => exact Nat.le_refl _
  | succ d => show 800 ≤ 800 + 2 * (1 + mm d * rcd d); omega
def spRow (d : Nat) : Sp := fun vs H Q _ => ∃ (b sd an at_ : Addr) (nm : List Str) (ti : List (Str × Nat)) (L k : Nat), vs = [.ref b, .ref sd, .int ((3 - d : Nat) : Int)] ∧ d ≤ 3 ∧ RC H b sd an at_ nm ti ∧ StL H sd an at_ L ∧ Bag H b (k + rcd d) ∧
  ∀ (v : V) (rs : Rs) (H' : Hp), RsIn H' rs [v] → Rs.ok d rs → rs.count ≤ L + 1 → (∀ st ∈ rs.starts, st ∈ ti) → StL H' sd an at_ (L + 1 - rs.count) → Bag H' b k → But2 b sd H H' → Q v H'
def spRows (d : Nat) : Sp := fun vs H Q _ => ∃ (b sd an at_ : Addr) (nm : List Str) (ti : List (Str × Nat)) (L k : Nat), vs = [.ref b, .ref sd, .int ((3 - d : Nat) : Int)] ∧ d ≤ 3 ∧ RC H b sd an at_ nm ti ∧ StL H sd an at_ L ∧ Bag H b (k + (1 + mm d * rcd d)) ∧
  ∀ (p : Addr) (xs : List V) (rs : Rs) (H' : Hp), H' p = some (.tup xs) → RsIn H' rs xs → Rs.ok d rs → rs.count ≤ L → (∀ st ∈ rs.starts, st ∈ ti) → StL H' sd an at_ (L - rs.count) → Bag H' b k → But2 b sd H H' → Q (.ref p) H'
theorem Ex.of_fine6 {nm : List Str} (hn : ∀ s ∈ nm, NmOk s) {n : Nat} (h : n ≤ 6) {e : Ex} (o : Ex.of nm n e) : Ex.fine 6 e := Ex.fine_up h (Ex.of_fine hn o)
section
variable {P : Program} {w : World} {K : PySem.W.Frag} {mg : Str → Option Value} {base : Heap}
set_option maxHeartbeats 4000000 in
theorem ok_row {d : Nat} {f t u r : Addr} {fd td ud rd : FuncData} (F : Fun K "_law_row" "_law_row" sRow f fd) (TK : Fk P w K mg base 1 "_law_take" t td ["_law_bag_here", "_law_many"] spTake) (TR : Fk P w K mg base 8 "_law_tree" u ud ["_law_bag_here", "_law_names_here", "_law_deep"] (spTrees 6))
    (RS : 1 ≤ d → FnOk P w K mg base CX0 (8 + 2 * d) r rd ["_law_bag_here", "_law_state", "_law_nested"] (spRows (d - 1))) (mR : mg "_law_rows" = some (.ref r)) (kR : PySem.W.keepIn K (.ref r) = true) (bR : Binds K rd ["_law_bag_here", "_law_state", "_law_nested"] []) (T : Bi mg) (mt : mg "tuple" = none) :
    FnOk P w K mg base CX0 (9 + 2 * d) f fd ["_law_bag_here", "_law_state", "_law_nested"] (spRow d) := by
  have lvl : 9 + 2 * d = (8 + 2 * d) + 1 := by omega
  rw [lvl]
  refine F.ok scRow (fun vs H Q E h => ?_) (fun cdv A outer s H vs Q E hr h => ?_)
  · obtain ⟨b, sd, an, at_, nm, ti, L, k, rfl, _⟩ := h
    rfl
  obtain ⟨b, sd, an, at_, nm, ti, L, k, rfl, d3, rc, hst, hB, q⟩ := h
  have BG : ∃ sp, FnOk P w K mg base CX0 (8 + 2 * d) r rd ["_law_bag_here", "_law_state", "_law_nested"] sp ∧ (1 ≤ d → sp = spRows (d - 1)) := by
    by_cases h1 : 1 ≤ d
    · exact ⟨_, RS h1, fun _ => rfl⟩
    · refine ⟨fun _ _ _ _ => False, ⟨fun _ _ _ _ h => h.elim, fun _ _ _ _ _ _ _ _ _ _ _ _ _ h => h.elim⟩, fun z => absurd z h1⟩
  obtain ⟨spB, GB, eB⟩ := BG
  have RW : Fk P w K mg base (8 + 2 * d) "_law_rows" r rd ["_law_bag_here", "_law_state", "_law_nested"] spB := ⟨GB, mR, kR, bR⟩
  refine ⟨_, (pss_cons (ps_asg (pe_tup (pa_cons (pe_dget (hu_of hr) (pv 1) pe_str (fun _ _ => rfl)) (pa_cons (pe_dget (hu_of hr) (pv 1) pe_str (fun _ _ => rfl)) pa_nil))) (pg_tup rfl (pgs_cons (pg_name (i := 3) scRow.nd rfl (.inr rfl)) (pgs_cons (pg_name (i := 4) scRow.nd rfl (.inl rfl)) pgs_nil))))
    (pss_cons (ps_asg (pe_lc (own := [("_law_k", 12)]) (g := gName 12) (tt := tYes) (by rfl) scRow.nd (pi_range1 (by rfl) T.range (pa_cons pe_int pa_nil)) (blkOk_by (own := [("_law_k", 12)]) (N := ["_law_bag_here", "_law_state", "_law_nested", "_law_names_here", "_law_titles", "_law_one", "_law_other", "_law_way", "_law_title", "_law_many", "_law_trees", "_law_tree_here", "_law_k"]) (sc := defScope sRow) (by decide +kernel)) (fun _ _ _ _ _ => pg_name (i := 12) scRow.nd rfl (Or.inl rfl)) (fun _ _ _ _ _ => pts_nil) (fun _ _ _ _ _ => (pe_ix (ix_listK K) (pv 3) (pe_call TK.G (hr.mono (by omega)) (by rfl) TK.m TK.k TK.b .nil pass0 (pa_cons (pv 0) (pa_cons (pe_callB (call_len_seqK K) (by rfl) T.len (by decide +kernel) (pa_cons (pv 3) pa_nil)) pa_nil))) (fun _ _ => rfl)))) (pg_unl rfl (pgs_cons (pg_name (i := 5) scRow.nd rfl (.inl rfl)) (pgs_cons (pg_name (i := 6) scRow.nd rfl (.inl rfl)) pgs_nil))))
    (pss_cons (ps_set (i := 7) scRow.nd rfl (Or.inl rfl) (pe_call TK.G (hr.mono (by omega)) (by rfl) TK.m TK.k TK.b .nil pass0 (pa_cons (pv 0) (pa_cons pe_int pa_nil))))
    (pss_cons (ps_if (pt_cmpR op_lt (pv 7) pe_int (nomark _))
      (pss_cons (ps_asg (pe_ix ix_list (pv 4) (pe_call TK.G (hr.mono (by omega)) (by rfl) TK.m TK.k TK.b .nil pass0 (pa_cons (pv 0) (pa_cons (pe_callB call_len_seq (by rfl) T.len (by decide +kernel) (pa_cons (pv 4) pa_nil)) pa_nil))) (fun _ _ => rfl)) (pg_tup rfl (pgs_cons (pg_name (i := 8) scRow.nd rfl (.inl rfl)) (pgs_cons (pg_name (i := 9) scRow.nd rfl (.inl rfl)) pgs_nil))))
    (pss_cons (ps_setLc (i := 10) (own := [("_law_k", 12)]) (g := gName 12) (tt := tYes) (by rfl) scRow.nd rfl rfl (sw_true rfl rfl rfl (by decide +kernel)) (pi_range1 (by rfl) T.range (pa_cons (pv 9) pa_nil)) (blkOk_by (own := [("_law_k", 12)]) (N := ["_law_bag_here", "_law_state", "_law_nested", "_law_names_here", "_law_titles", "_law_one", "_law_other", "_law_way", "_law_title", "_law_many", "_law_trees", "_law_tree_here", "_law_k"]) (sc := defScope sRow) (by decide +kernel)) (fun _ _ _ _ _ => pg_name (i := 12) scRow.nd rfl (Or.inl rfl)) (fun _ _ _ _ _ => pts_nil) (fun _ _ _ _ _ => (pe_call TR.G (hr.mono (by omega)) (by rfl) TR.m TR.k TR.b .nil pass0 (pa_cons (pv 0) (pa_cons (pv 3) (pa_cons (pe_op op_add pe_int (pe_call TK.G (hr.mono (by omega)) (by rfl) TK.m TK.k TK.b .nil pass0 (pa_cons (pv 0) (pa_cons pe_int pa_nil)))) pa_nil))))))
    (pss_one (ps_ret (pe_tup (pa_cons (pe_ix ix_list (pe_lst (pa_cons pe_str (pa_cons pe_str (pa_cons pe_str pa_nil)))) (pv 7) (fun _ _ => rfl)) (pa_cons (pv 5) (pa_cons (pv 8) (pa_cons (pe_callTy call_tuple_of (by rfl) mt (by decide +kernel) (pa_cons (pv 10) pa_nil)) pa_nil)))))))))
      pss_nil)
    (pss_cons (ps_if (pt_cmpR op_eq (pv 7) pe_int (nomark _))
      (pss_one (ps_ret (pe_tup (pa_cons pe_str (pa_cons (pv 5) (pa_cons (pv 6) (pa_cons (pe_ix ix_list (pe_lst (pa_cons pe_non (pa_cons (pe_call TR.G (hr.mono (by omega)) (by rfl) TR.m TR.k TR.b .nil pass0 (pa_cons (pv 0) (pa_cons (pv 3) (pa_cons pe_int pa_nil)))) pa_nil))) (pe_call TK.G (hr.mono (by omega)) (by rfl) TK.m TK.k TK.b .nil pass0 (pa_cons (pv 0) (pa_cons pe_int pa_nil))) (fun _ _ => rfl)) pa_nil)))))))
      pss_nil)
    (C8.pss_cut (ps_if (PW.pt (pw_and (pt_cmpR op_eq (pv 7) pe_int (nomark _)) (pw_and1 (pt_cmpR op_lt (pv 2) pe_int (nomark _)))))
      (pss_cons (ps_set (i := 11) scRow.nd rfl (Or.inl rfl) (pe_call TR.G (hr.mono (by omega)) (by rfl) TR.m TR.k TR.b .nil pass0 (pa_cons (pv 0) (pa_cons (pv 3) (pa_cons pe_int pa_nil)))))
    (pss_one (ps_ret (pe_tup (pa_cons pe_str (pa_cons (pv 11) (pa_cons (pe_call RW.G hr (by rfl) RW.m RW.k RW.b .nil pass0 (pa_cons (pv 0) (pa_cons (pv 1) (pa_cons (pe_op op_add (pv 2) pe_int) pa_nil)))) (pa_cons (pe_call RW.G hr (by rfl) RW.m RW.k RW.b .nil pass0 (pa_cons (pv 0) (pa_cons (pv 1) (pa_cons (pe_op op_add (pv 2) pe_int) pa_nil)))) pa_nil))))))))
      pss_nil)
    (pss_cons (ps_if (pt_cmpR op_eq (pv 7) pe_int (nomark _))
      (pss_one (ps_ret (pe_tup (pa_cons (pe_ix ix_list (pe_lst (pa_cons pe_str (pa_cons pe_str pa_nil))) (pe_call TK.G (hr.mono (by omega)) (by rfl) TK.m TK.k TK.b .nil pass0 (pa_cons (pv 0) (pa_cons pe_int pa_nil))) (fun _ _ => rfl)) (pa_cons (pe_call TR.G (hr.mono (by omega)) (by rfl) TR.m TR.k TR.b .nil pass0 (pa_cons (pv 0) (pa_cons (pv 3) (pa_cons (pe_op op_add pe_int (pe_call TK.G (hr.mono (by omega)) (by rfl) TK.m TK.k TK.b .nil pass0 (pa_cons (pv 0) (pa_cons pe_int pa_nil)))) pa_nil)))) pa_nil)))))
      pss_nil)
    (pss_one (ps_ret (pe_tup (pa_cons pe_str (pa_cons (pv 5) (pa_cons (pe_call TR.G (hr.mono (by omega)) (by rfl) TR.m TR.k TR.b .nil pass0 (pa_cons (pv 0) (pa_cons (pv 3) (pa_cons (pe_op op_add pe_int (pe_call TK.G (hr.mono (by omega)) (by rfl) TK.m TK.k TK.b .nil pass0 (pa_cons (pv 0) (pa_cons pe_int pa_nil)))) pa_nil)))) pa_nil))))))))))))), ?_⟩
  have hs : sizeLine = 16777216 := by decide
  have hrc := rcd_ge d
  obtain ⟨g1, g2, g3⟩ := hst.get
  refine ⟨_, rfl, sd, _, rfl, g1, _, rfl, sd, _, rfl, g2, (by show 2 ≤ sizeLine; decide), fun t1 ht1 => ?_⟩
  have s1 := same_new ht1 (.tup [.ref an, .ref at_])
  refine ⟨t1, _, rfl, SqT.of upd_same, rfl, _, _, rfl, _, _, rfl, rfl, ?_⟩
  generalize upd H t1 (.tup [.ref an, .ref at_]) = H1 at s1
  have rc1 := rc.move hst hB.lst (.of s1)
  have st1 := hst.same s1
  have B1 := hB.same s1
  -- the two names
  refine ⟨2, rfl, by decide, by decide, ?_⟩
  intro D hD
  have nDb : D ≠ b := fun z => by obtain ⟨ys, hy⟩ := B1.lst; rw [z, hy] at hD; cases hD
  refine lc_range (lo := 0) (n := 2) (fun j H' => ∃ ss : List Str, H' D = some (.lst (ss.map V.str)) ∧ ss.length = j ∧ (∀ s ∈ ss, s ∈ nm) ∧ Bag H' b (k + rcd d - j) ∧ But b H1 H') ?_ ?_ ?_
  · exact ⟨[], upd_same, rfl, fun s h => (by cases h), (B1.same (same_new hD _)).less (by omega), But.new hD _⟩
  · rintro j H2 hj ⟨ss, hD2, hl, hin, B2, U2⟩
    refine ⟨rfl, ?_⟩
    have hn2 := U2 _ _ rc.nb rc1.names
    have hlm : (nm.map V.str).length = nm.length := List.length_map _
    have h1 := rc.nm1
    have h2 := rc.nm2
    refine ⟨_, rfl, _, rfl, _, rfl, an, _, rfl, .inl (SqL.of hn2), b, _, k + rcd d - j - 1, rfl, by rw [hlm]; omega, by rw [hlm]; omega, B2.less (by omega), fun d1 H3 a1 a2 B3 U3 => ?_⟩
    rw [hlm] at a2
    obtain ⟨x, ex, hx⟩ := menuS (ns := nm) a1 a2
    refine ⟨an, _, _, _, rfl, rfl, SqL.of (U3 _ _ rc.nb hn2), ex, ?_⟩
    refine ⟨_, U3 _ _ nDb hD2, by rw [List.length_map]; omega, ss ++ [x], ?_, by rw [List.length_append, hl]; rfl, ?_, ?_, ?_⟩
    · rw [upd_same, List.map_append]; rfl
    · intro s hs'
      rcases List.mem_append.mp hs' with h | h
      · exact hin s h
      · rw [List.mem_singleton.mp h]; exact hx
    · obtain ⟨x', y', z', e, rr⟩ := B3
      exact Bag.less ⟨x', y', z', by rw [upd_ne (Ne.symm nDb)]; exact e, rr⟩ (by omega)
    · intro a o na e
      rw [upd_ne (ne_of_none e hD)]
      exact U3 _ _ na (U2 _ _ na e)
  rintro H2 ⟨ss, hD2, hl, hin, B2, U2⟩
  obtain ⟨o1, o2, rfl⟩ : ∃ o1 o2, ss = [o1, o2] := by
    match ss, hl with
    | [a, b], _ => exact ⟨a, b, rfl⟩
  have ok1 := rc.nmk o1 (hin o1 (by simp))
  have ok2 := rc.nmk o2 (hin o2 (by simp))
  refine ⟨D, _, rfl, SqL.of hD2, rfl, _, _, rfl, _, _, rfl, rfl, ?_⟩
  -- its way
  refine ⟨_, rfl, b, 9, k + rcd d - 3, rfl, by decide, by decide, B2.less (by omega), fun way H3 w1 w2 B3 U3 => ?_⟩
  obtain ⟨ys1, hys1⟩ := B1.lst
  obtain ⟨ys2, hys2⟩ := B2.lst
  have U13 : But b H1 H3 := U2.trans U3
  have V3 : But2 b sd H H3 := (But2.of s1).trans (.but U13)
  have rc3 : RC H3 b sd an at_ nm ti := rc1.move st1 B1.lst (.but U13)
  have st3 : StL H3 sd an at_ L := st1.but hys1 U13
  have nmo : ∀ s ∈ nm, nmOk s := fun s h => (rc.nmk s h).1
  have tc6 : tc 6 = 756 := by decide
  -- a row that is no if: its end
  have fin : ∀ (v : V) (rs : Rs) (H' : Hp), RsIn H' rs [v] → Rs.ok d rs → rs.count = 1 → (∀ st ∈ rs.starts, st ∈ ti) → (∃ ys, H3 b = some (.lst ys)) → Bag H' b k → But b H3 H' → Q v H' := fun v rs H' a1 a2 a3 a4 ⟨ys, hy⟩ a5 a6 => q v rs H' a1 a2 (by omega) a4 (by rw [a3]; exact st3.but hy a6) a5 (V3.trans (.but a6))
  refine ⟨_, rfl, _, _, rfl, rfl, _, rfl, ?_⟩
  refine ite2 (fun c => ?_) (fun c => ?_)
  · -- go, call
    have c' : way < 3 := of_decide_eq_true c
    obtain ⟨tvs, ht, tin⟩ := rc3.titles
    have t1' := rc.ti1
    have t2' := rc.ti2
    refine ⟨_, rfl, _, rfl, _, rfl, at_, _, rfl, .inl (SqL.of ht), b, _, k + rcd d - 4, rfl, by rw [tin.1]; omega, by rw [tin.1]; omega, B3.less (by omega), fun d1 H4 a1 a2 B4 U4 => ?_⟩
    obtain ⟨v, ev, hv⟩ := menu (xs := tvs) a1 a2
    obtain ⟨i, hi, ei⟩ := List.mem_iff_getElem.mp hv
    obtain ⟨tt, htt, p, rfl, hp⟩ := tin.2 i v (by rw [List.getElem?_eq_getElem hi, ei])
    have tmem := List.mem_of_getElem? htt
    have tok := rc.tik tt tmem
    obtain ⟨ys3, hys3⟩ := B3.lst
    have kt34 : KeepT H3 H4 := .but hys3 U4
    refine ⟨at_, _, _, _, rfl, rfl, SqL.of (U4 _ _ rc.tb ht), ev, ?_⟩
    refine ⟨p, _, rfl, SqT.of (kt34 _ _ hp), rfl, _, _, rfl, _, _, rfl, rfl, ?_⟩
    have tlt := tok.2
    refine ⟨_, rfl, _, rfl, by omega, by omega, ?_⟩
    intro D2 hD2'
    have nD2b : D2 ≠ b := fun z => by obtain ⟨ys, hy⟩ := B4.lst; rw [z, hy] at hD2'; cases hD2'
    have B4' := B4.same (same_new hD2' (.lst []))
    refine lc_range (lo := 0) (n := ((tt.2 : Nat) : Int).toNat) (fun j H' => ∃ (es : List Ex) (ws : List V), H' D2 = some (.lst ws) ∧ TrsIn H' es ws ∧ es.length = j ∧ (∀ e ∈ es, Ex.fine 6 e) ∧ Bag H' b (k + rcd d - 4 - 100 * j) ∧ But b H4 H') ?_ ?_ ?_
    · exact ⟨[], [], upd_same, rfl, rfl, fun e h => (by cases h), B4'.less (by omega), But.new hD2' _⟩
    · rintro j H5 hj ⟨es, ws, hD5, ts, hl5, hf5, B5, U5⟩
      have hj4 : j < 4 := by omega
      refine ⟨rfl, ?_⟩
      obtain ⟨ys4, hys4⟩ := B4.lst
      obtain ⟨ys5, hys5⟩ := B5.lst
      have hn5 := U5 _ _ rc.nb (U4 _ _ rc.nb rc3.names)
      refine ⟨_, rfl, _, rfl, _, rfl, b, 3, k + rcd d - 5 - 100 * j, rfl, by decide, by decide, B5.less (by omega), fun d2 H6 b1 b2 B6 U6 => ?_⟩
      have ed : ((1 + d2).toNat : Int) = 1 + d2 := Int.toNat_of_nonneg (by omega)
      have tcs : tc (1 + d2).toNat ≤ 84 := by
        rcases (show d2 = 0 ∨ d2 = 1 ∨ d2 = 2 by omega) with rfl | rfl | rfl <;> decide
      refine ⟨_, _, rfl, rfl, (1 + d2).toNat, by omega, b, an, nm, k + rcd d - 5 - 100 * j - 84, (by show [V.ref b, V.ref an, V.int (1 + d2)] = _; rw [ed]), U6 _ _ rc.nb hn5, rc.nb, rc.nm2, nmo, by omega, B6.less (by omega), fun v' e' H7 t7 o7 B7 U7 => ?_⟩
      obtain ⟨ys6, hys6⟩ := B6.lst
      have kt57 : KeepT H5 H7 := (KeepT.but hys5 U6).trans (.but hys6 U7)
      have hD7 := U7 _ _ nD2b (U6 _ _ nD2b hD5)
      have kt8 : KeepT H7 (upd H7 D2 (.lst (ws ++ [v']))) := .upd hD7 (fun xs z => by cases z)
      refine ⟨_, hD7, by rw [ts.len]; omega, es ++ [e'], ws ++ [v'], upd_same, ?_, by rw [List.length_append, hl5]; rfl, ?_, ?_, ?_⟩
      · exact TrsIn.snoc (t7.keep kt8) ((ts.keep kt57).keep kt8)
      · intro e he
        rcases List.mem_append.mp he with h | h
        · exact hf5 e h
        · rw [List.mem_singleton.mp h]; exact Ex.of_fine6 rc.nmk (by omega) o7
      · obtain ⟨x', y', z', e, rr⟩ := B7
        exact Bag.less ⟨x', y', z', by rw [upd_ne (Ne.symm nD2b)]; exact e, rr⟩ (by omega)
      · intro a o na e
        rw [upd_ne (ne_of_none e hD2')]
        exact U7 _ _ na (U6 _ _ na (U5 _ _ na e))
    · rintro H5 ⟨es, ws, hD5, ts, hl5, hf5, B5, U5⟩
      refine ⟨(by show 3 ≤ sizeLine; decide), fun l hl' => ?_⟩
      have s6 := same_new hl' (.lst [.str "go", .str "call", .str "go"])
      have mw : ∃ wd : Bool, atI [V.str "go", V.str "call", V.str "go"] way = some (.str (goW wd)) := by
        rcases (show way = 0 ∨ way = 1 ∨ way = 2 by omega) with rfl | rfl | rfl
        · exact ⟨false, atI_nat (j := 0) rfl⟩
        · exact ⟨true, atI_nat (j := 1) rfl⟩
        · exact ⟨false, atI_nat (j := 2) rfl⟩
      obtain ⟨wd, ew⟩ := mw
      refine ⟨_, rfl, l, _, _, _, rfl, rfl, SqL.of upd_same, ew, _, rfl, _, rfl, _, rfl, D2, _, rfl, .inl ⟨SqL.of (s6 _ _ hD5), fun p2 hp2 => ?_⟩⟩
      have s7 := same_new hp2 (.tup ws)
      refine ⟨(by show 4 ≤ sizeLine; decide), fun p3 hp3 => ?_⟩
      have s8 := same_new hp3 (.tup [.str (goW wd), .str o1, .str tt.1, .ref p2])
      have s68 := s6.trans (s7.trans s8)
      refine fin (.ref p3) (.go wd o1 tt.1 es .nil) _ ⟨p3, p2, ws, [], rfl, upd_same, s8 _ _ upd_same, ts.same s68, rfl⟩ ⟨ok1, tok.1, by omega, hf5, trivial⟩ rfl ?_ B3.lst ((B5.same s68).less (by omega)) (U4.trans (U5.trans (.of s68)))
      intro st hst'
      have hst'' : st = (tt.1, es.length) := by simpa [Rs.starts] using hst'
      rw [hst'', hl5]
      have : ((tt.2 : Nat) : Int).toNat = tt.2 := Int.toNat_natCast _
      rw [this]
      exact tmem
  · have c' : ¬ way < 3 := of_decide_eq_false (Bool.eq_false_iff.mpr c)
    refine ⟨_, rfl, rfl, _, rfl, ?_⟩
    refine ite2 (fun c3 => ?_) (fun c3 => ?_)
    · -- wait
      refine ⟨_, rfl, _, rfl, _, rfl, _, rfl, 2, by decide, b, an, nm, k + rcd d - 3 - 36, rfl, rc3.names, rc.nb, rc.nm2, nmo, by decide, B3.less (by have h36 : tc 2 = 36 := (by decide); omega), fun v e H4 t4 o4 B4 U4 => ?_⟩
      refine ⟨(by show 2 ≤ sizeLine; decide), fun l hl' => ?_⟩
      have s5 := same_new hl' (.lst [.non, v])
      refine ⟨_, rfl, b, 2, k + rcd d - 4 - 36, rfl, by decide, by decide, (B4.same s5).less (by omega), fun d2 H6 b1 b2 B6 U6 => ?_⟩
      have nlb : l ≠ b := fun z => by obtain ⟨ys, hy⟩ := B4.lst; rw [z, hy] at hl'; cases hl'
      have hl6 : H6 l = some (.lst [.non, v]) := U6 _ _ nlb upd_same
      obtain ⟨ys5, hys5⟩ := (B4.same s5).lst
      have t6 : TrIn H6 e v := (t4.same s5).keep (.but hys5 U6)
      have mo : ∃ (oe : Option Ex) (v' : V), atI [V.non, v] d2 = some v' ∧ OptIn H6 oe v' ∧ ∀ e', oe = some e' → Ex.fine 6 e' := by
        rcases (show d2 = 0 ∨ d2 = 1 by omega) with rfl | rfl
        · exact ⟨none, .non, atI_nat (j := 0) rfl, rfl, fun e' z => (by cases z)⟩
        · exact ⟨some e, v, atI_nat (j := 1) rfl, t6, fun e' z => (by cases z; exact Ex.of_fine6 rc.nmk (by omega) o4)⟩
      obtain ⟨oe, v', ev, ov, of6⟩ := mo
      refine ⟨l, _, _, _, rfl, rfl, SqL.of hl6, ev, (by show 4 ≤ sizeLine; decide), fun p hp => ?_⟩
      have s7 := same_new hp (.tup [.str "wait", .str o1, .str o2, v'])
      exact fin (.ref p) (.wait o1 o2 oe .nil) _ ⟨p, v', [], rfl, upd_same, ov.same s7, rfl⟩ ⟨ok1, ok2, of6, trivial⟩ rfl (fun st h => (by cases h)) B3.lst ((B6.same s7).less (by omega)) (U4.trans ((But.of s5).trans (U6.trans (.of s7))))
    · -- an if?
      have goOn : ∀ (cc : Bool), True := fun _ => trivial
      refine ⟨fun σ' H' => (σ' = [some (.ref b), some (.ref sd), some (.int ((3 - d : Nat) : Int)), some (.ref an), some (.ref at_), some (.str o1), some (.str o2), some (.int way), none, none, none, none, none]) ∧ H' = H3, ?_, ?_⟩
      · refine ⟨_, rfl, rfl, _, rfl, ?_⟩
        refine ite2 (fun c4 => ⟨_, rfl, _, _, rfl, rfl, _, rfl, ite2 (fun c5 => ?_) (fun c5 => ⟨rfl, rfl⟩)⟩) (fun c4 => ⟨rfl, rfl⟩)
        have c5' : ((3 - d : Nat) : Int) < 3 := of_decide_eq_true c5
        have hd1 : 1 ≤ d := by omega
        obtain ⟨dd, rfl⟩ : ∃ dd, d = dd + 1 := ⟨d - 1, by omega⟩
        have erc : rcd (dd + 1) = 800 + 2 * (1 + mm dd * rcd dd) := rfl
        have en : ((3 - (dd + 1) : Nat) : Int) + 1 = ((3 - dd : Nat) : Int) := by omega
        refine ⟨_, rfl, _, rfl, 2, by decide, b, an, nm, k + 2 * (1 + mm dd * rcd dd) + 700, rfl, rc3.names, rc.nb, rc.nm2, nmo, by decide, B3.less (by have h36 : tc 2 = 36 := (by decide); omega), fun v e H4 t4 o4 B4 U4 => ?_⟩
        obtain ⟨ys3, hys3⟩ := B3.lst
        have rc4 := rc3.move st3 ⟨_, hys3⟩ (.but U4)
        have st4 := st3.but hys3 U4
        refine ⟨_, rfl, _, rfl, _, rfl, _, rfl, _, _, rfl, rfl, ?_⟩
        rw [eB hd1]
        refine ⟨b, sd, an, at_, nm, ti, L, k + (1 + mm dd * rcd dd), (by show [V.ref b, V.ref sd, V.int (((3 - (dd + 1) : Nat) : Int) + 1)] = _; rw [en]; rfl), by omega, rc4, st4, B4.less (by show k + (1 + mm dd * rcd dd) + (1 + mm dd * rcd dd) ≤ _; omega), fun p xs rs H5 hp hR ok hc' hst5 st5 B5 U5 => ?_⟩
        obtain ⟨ys4, hys4⟩ := B4.lst
        have rc5 := rc4.move st4 ⟨_, hys4⟩ U5
        have kt45 : KeepT H4 H5 := .but2 hys4 st4 U5
        refine ⟨_, rfl, _, rfl, _, rfl, _, _, rfl, rfl, ?_⟩
        refine ⟨b, sd, an, at_, nm, ti, L - rs.count, k, (by show [V.ref b, V.ref sd, V.int (((3 - (dd + 1) : Nat) : Int) + 1)] = _; rw [en]; rfl), by omega, rc5, st5, B5, fun p' xs' rs' H6 hp' hR' ok' hc6 hst6 st6 B6 U6 => ?_⟩
        obtain ⟨ys5, hys5⟩ := B5.lst
        have kt56 : KeepT H5 H6 := .but2 hys5 st5 U6
        refine ⟨(by show 4 ≤ sizeLine; decide), fun p7 hp7 => ?_⟩
        have s7 := same_new hp7 (.tup [.str "if", v, .ref p, .ref p'])
        have ec : (Rs.iff e rs rs' .nil).count = 1 + rs.count + rs'.count + 0 := rfl
        refine q (.ref p7) (.iff e rs rs' .nil) _ ⟨p7, v, p, xs, p', xs', [], rfl, upd_same, ((t4.keep kt45).keep kt56).same s7, s7 _ _ (kt56 _ _ hp), (hR.keep kt56).same s7, s7 _ _ hp', hR'.same s7, rfl⟩ ⟨by omega, Ex.of_fine6 rc.nmk (by omega) o4, ok, ok', trivial⟩ (by omega) ?_ ?_ (B6.same s7) (V3.trans ((But2.but U4).trans (U5.trans (U6.trans (.of s7)))))
        · intro st h
          have h' : st ∈ rs.starts ∨ st ∈ rs'.starts := by simpa [Rs.starts] using h
          rcases h' with h | h
          · exact hst5 st h
          · exact hst6 st h
        · have e7 : L + 1 - (Rs.iff e rs rs' .nil).count = L - rs.count - rs'.count := by omega
          rw [e7]
          exact st6.same s7
      · rintro σ' H' ⟨rfl, rfl⟩
        refine ⟨_, rfl, rfl, _, rfl, ?_⟩
        refine ite2 (fun c5 => ?_) (fun c5 => ?_)
        · -- give, fail
          refine ⟨(by show 2 ≤ sizeLine; decide), fun l hl' => ?_⟩
          have s4 := same_new hl' (.lst [.str "give", .str "fail"])
          have nlb : l ≠ b := fun z => by obtain ⟨ys, hy⟩ := B3.lst; rw [z, hy] at hl'; cases hl'
          refine ⟨_, rfl, b, 2, k + rcd d - 4, rfl, by decide, by decide, (B3.same s4).less (by omega), fun d1 H5 a1 a2 B5 U5 => ?_⟩
          have hl5 : H5 l = some (.lst [.str "give", .str "fail"]) := U5 _ _ nlb upd_same
          have mw : ∃ wd : Bool, atI [V.str "give", V.str "fail"] d1 = some (.str (giveW wd)) := by
            rcases (show d1 = 0 ∨ d1 = 1 by omega) with rfl | rfl
            · exact ⟨false, atI_nat (j := 0) rfl⟩
            · exact ⟨true, atI_nat (j := 1) rfl⟩
          obtain ⟨wd, ew⟩ := mw
          refine ⟨l, _, _, _, rfl, rfl, SqL.of hl5, ew, ?_⟩
          refine ⟨_, rfl, _, rfl, _, rfl, b, 4, k + rcd d - 5, rfl, by decide, by decide, B5.less (by omega), fun d2 H6 b1 b2 B6 U6 => ?_⟩
          have ed : ((1 + d2).toNat : Int) = 1 + d2 := Int.toNat_of_nonneg (by omega)
          have tcs : tc (1 + d2).toNat ≤ 180 := by
            rcases (show d2 = 0 ∨ d2 = 1 ∨ d2 = 2 ∨ d2 = 3 by omega) with rfl | rfl | rfl | rfl <;> decide
          have hn6 := U6 _ _ rc.nb (U5 _ _ rc.nb (s4 _ _ rc3.names))
          refine ⟨_, _, rfl, rfl, (1 + d2).toNat, by omega, b, an, nm, k + rcd d - 5 - 180, (by show [V.ref b, V.ref an, V.int (1 + d2)] = _; rw [ed]), hn6, rc.nb, rc.nm2, nmo, by omega, B6.less (by omega), fun v' e' H7 t7 o7 B7 U7 => ?_⟩
          refine ⟨(by show 2 ≤ sizeLine; decide), fun p hp => ?_⟩
          have s8 := same_new hp (.tup [.str (giveW wd), v'])
          exact fin (.ref p) (.give wd e' .nil) _ ⟨p, v', [], rfl, upd_same, t7.same s8, rfl⟩ ⟨Ex.of_fine6 rc.nmk (by omega) o7, trivial⟩ rfl (fun st h => (by cases h)) B3.lst ((B7.same s8).less (by omega)) ((But.of s4).trans (U5.trans (U6.trans (U7.trans (.of s8)))))
        · -- put
          refine ⟨_, rfl, _, rfl, _, rfl, _, rfl, b, 6, k + rcd d - 4, rfl, by decide, by decide, B3.less (by omega), fun d2 H6 b1 b2 B6 U6 => ?_⟩
          have ed : ((1 + d2).toNat : Int) = 1 + d2 := Int.toNat_of_nonneg (by omega)
          have tcs : tc (1 + d2).toNat ≤ 756 := by
            rcases (show d2 = 0 ∨ d2 = 1 ∨ d2 = 2 ∨ d2 = 3 ∨ d2 = 4 ∨ d2 = 5 by omega) with rfl | rfl | rfl | rfl | rfl | rfl <;> decide
          refine ⟨_, _, rfl, rfl, (1 + d2).toNat, by omega, b, an, nm, k, (by show [V.ref b, V.ref an, V.int (1 + d2)] = _; rw [ed]), U6 _ _ rc.nb rc3.names, rc.nb, rc.nm2, nmo, by omega, B6.less (by omega), fun v' e' H7 t7 o7 B7 U7 => ?_⟩
          refine ⟨(by show 3 ≤ sizeLine; decide), fun p hp => ?_⟩
          have s8 := same_new hp (.tup [.str "put", .str o1, v'])
          exact fin (.ref p) (.put o1 e' .nil) _ ⟨p, v', [], rfl, upd_same, t7.same s8, rfl⟩ ⟨ok1, Ex.of_fine6 rc.nmk (by omega) o7, trivial⟩ rfl (fun st h => (by cases h)) B3.lst (B7.same s8) (U6.trans (U7.trans (.of s8)))
end
end SH

set_option Elab.async false
set_option linter.all false
set_option maxRecDepth 100000
namespace SH
open PySem L2
abbrev sWorks : Stmt := topS 13
theorem scWorks : FnScope ["_law_bag_here", "_law_most", "_law_titles", "_law_names_here", "_law_some", "_law_found", "_law_title", "_law_many", "_law_at", "_law_handed", "_law_room", "_law_rows_here"] ["_law_bag_here", "_law_most"] (defScope sWorks) := ⟨rfl, rfl, rfl, by decide +kernel, rfl, by decide +kernel, by decide +kernel⟩
theorem mm_at {d : Nat} (h : d ≤ 3) : atI (([12, 4, 3, 3] : List Int).map V.int) ((3 - d : Nat) : Int) = some (.int ((mm d : Nat) + 1 : Int)) := by
  match d, h with
  | 0, _ => exact atI_nat (j := 3) rfl
  | 1, _ => exact atI_nat (j := 2) rfl
  | 2, _ => exact atI_nat (j := 1) rfl
  | 3, _ => exact atI_nat (j := 0) rfl
theorem mm_le {d : Nat} (h : d ≤ 3) : mm d ≤ 11 := by
  match d, h with
  | 0, _ => decide
  | 1, _ => decide
  | 2, _ => decide
  | 3, _ => decide
theorem RC.same {H H' : Hp} {b sd an at_ : Addr} {nm : List Str} {ti : List (Str × Nat)} (r : RC H b sd an at_ nm ti) (h : Same H H') : RC H' b sd an at_ nm ti := by
  obtain ⟨tvs, h1, h2⟩ := r.titles
  refine ⟨h _ _ r.names, ⟨tvs, h _ _ h1, h2.1, fun i v e => ?_⟩, r.nb, r.tb, r.nm1, r.nm2, r.nmk, r.ti1, r.ti2, r.tik⟩
  obtain ⟨t, e1, p, e2, e3⟩ := h2.2 i v e
  exact ⟨t, e1, p, e2, h _ _ e3⟩
section
variable {P : Program} {w : World} {K : PySem.W.Frag} {mg : Str → Option Value} {base : Heap}
theorem ok_rows {d : Nat} {f t r : Addr} {fd td rd : FuncData} (F : Fun K "_law_rows" "_law_rows" sRows f fd) (TK : Fk P w K mg base 1 "_law_take" t td ["_law_bag_here", "_law_many"] spTake) (RO : Fk P w K mg base (9 + 2 * d) "_law_row" r rd ["_law_bag_here", "_law_state", "_law_nested"] (spRow d)) (T : Bi mg) (mt : mg "tuple" = none) :
    FnOk P w K mg base CX0 (9 + 2 * d + 1) f fd ["_law_bag_here", "_law_state", "_law_nested"] (spRows d) := by
  refine F.ok scRows (fun vs H Q E h => ?_) (fun cdv A outer s H vs Q E hr h => ?_)
  · obtain ⟨b, sd, an, at_, nm, ti, L, k, rfl, _⟩ := h
    rfl
  obtain ⟨b, sd, an, at_, nm, ti, L, k, rfl, d3, rc, hst, hB, q⟩ := h
  refine ⟨_, (pss_cons (ps_set (i := 3) scRows.nd rfl (Or.inl rfl) (pe_callB (call_min2 rfl) (by rfl) T.min (by decide +kernel) (pa_cons (pe_call TK.G (hr.mono (by omega)) (by rfl) TK.m TK.k TK.b .nil pass0 (pa_cons (pv 0) (pa_cons (pe_ix ix_list (pe_lst (pa_cons pe_int (pa_cons pe_int (pa_cons pe_int (pa_cons pe_int pa_nil))))) (pv 2) (fun _ _ => rfl)) pa_nil))) (pa_cons (pe_dget (hu_of hr) (pv 1) pe_str (fun _ _ => rfl)) pa_nil))))
    (pss_cons (ps_dput (hu_of hr) (pv 1) pe_str (pe_op op_sub (pe_dget (hu_of hr) (pv 1) pe_str (fun _ _ => rfl)) (pv 3)) rfl)
    (pss_one (ps_ret (pe_callTy call_tuple_of (by rfl) mt (by decide +kernel) (pa_cons (pe_lc (own := [("_law_k", 4)]) (g := gName 4) (tt := tYes) (by rfl) scRows.nd (pi_range1 (by rfl) T.range (pa_cons (pv 3) pa_nil)) (blkOk_by (own := [("_law_k", 4)]) (N := ["_law_bag_here", "_law_state", "_law_nested", "_law_many", "_law_k"]) (sc := defScope sRows) (by decide +kernel)) (fun _ _ _ _ _ => pg_name (i := 4) scRows.nd rfl (Or.inl rfl)) (fun _ _ _ _ _ => pts_nil) (fun _ _ _ _ _ => (pe_call RO.G hr (by rfl) RO.m RO.k RO.b .nil pass0 (pa_cons (pv 0) (pa_cons (pv 1) (pa_cons (pv 2) pa_nil)))))) pa_nil)))))), ?_⟩
  have hs : sizeLine = 16777216 := by decide
  have hmm := mm_le d3
  obtain ⟨ys0, hys0⟩ := hB.lst
  refine ⟨_, rfl, (by show 4 ≤ sizeLine; decide), fun l hl => ?_⟩
  have s1 := same_new hl (.lst (([12, 4, 3, 3] : List Int).map V.int))
  refine ⟨_, rfl, l, _, _, _, rfl, rfl, SqL.of upd_same, mm_at d3, b, _, k + mm d * rcd d, rfl, by omega, by omega, (hB.same s1).less (by omega), fun d1 H1 a1 a2 B1 U1 => ?_⟩
  have U01 : But b H H1 := (But.of s1).trans U1
  have st1 := hst.but hys0 U01
  have rc1 := rc.move hst ⟨_, hys0⟩ (.but U01)
  obtain ⟨g1, g2, g3⟩ := st1.get
  obtain ⟨M, eM, hM1, hM2⟩ : ∃ M : Nat, (if ((L : Nat) : Int) < d1 then ((L : Nat) : Int) else d1) = ((M : Nat) : Int) ∧ M ≤ L ∧ M ≤ mm d := by
    split
    · exact ⟨L, rfl, Nat.le_refl _, by omega⟩
    · exact ⟨d1.toNat, by omega, by omega, by omega⟩
  refine ⟨_, rfl, sd, _, rfl, g3, _, _, rfl, ?_⟩
  rw [eM]
  have eL : ((L : Nat) : Int) - ((M : Nat) : Int) = ((L - M : Nat) : Int) := by omega
  have eP : putK (stK an at_ L) (Sum.inr "left") (.int (((L : Nat) : Int) - ((M : Nat) : Int))) = stK an at_ (L - M) := by rw [eL, st_put]
  have dput := DPut.k (k := Sum.inr "left") (v := .int (((L : Nat) : Int) - ((M : Nat) : Int))) (show H1 sd = some (.dK (stK an at_ L)) from st1) (by show 3 < sizeLine; decide)
  rw [eP] at dput
  refine ⟨_, rfl, sd, _, rfl, g3, _, rfl, _, _, rfl, rfl, _, rfl, sd, _, rfl, dput, ?_⟩
  have nsb : b ≠ sd := fun z => by unfold StL at st1; obtain ⟨ys, hy⟩ := B1.lst; rw [z, st1] at hy; cases hy
  have st2 : StL (upd H1 sd (.dK (stK an at_ (L - M)))) sd an at_ (L - M) := upd_same
  have U12 : But2 b sd H1 (upd H1 sd (.dK (stK an at_ (L - M)))) := fun a o _ nd e => by rw [upd_ne nd]; exact e
  have B2 : Bag (upd H1 sd (.dK (stK an at_ (L - M)))) b (k + mm d * rcd d) := by
    obtain ⟨x, y, z, e, rr⟩ := B1
    exact ⟨x, y, z, by rw [upd_ne nsb]; exact e, rr⟩
  have rc2 := rc1.move st1 B1.lst U12
  have V2 : But2 b sd H (upd H1 sd (.dK (stK an at_ (L - M)))) := (But2.but U01).trans U12
  generalize upd H1 sd (.dK (stK an at_ (L - M))) = H2 at st2 U12 B2 rc2 V2
  refine ⟨_, rfl, _, rfl, by omega, by omega, ?_⟩
  intro D hD
  have nDb : D ≠ b := fun z => by obtain ⟨ys, hy⟩ := B2.lst; rw [z, hy] at hD; cases hD
  have nDs : D ≠ sd := fun z => by unfold StL at st2; rw [z, st2] at hD; cases hD
  have sD := same_new hD (.lst [])
  refine lc_range (lo := 0) (n := ((M : Nat) : Int).toNat) (fun j H' => ∃ (rs : Rs) (vs : List V), H' D = some (.lst vs) ∧ RsIn H' rs vs ∧ vs.length = j ∧ Rs.ok d rs ∧ j ≤ rs.count ∧ rs.count - j ≤ L - M ∧ (∀ st ∈ rs.starts, st ∈ ti) ∧ StL H' sd an at_ (L - M - (rs.count - j)) ∧ Bag H' b (k + (mm d - j) * rcd d) ∧ But2 b sd H2 H') ?_ ?_ ?_
  · exact ⟨.nil, [], upd_same, rfl, rfl, trivial, Nat.le_refl _, Nat.zero_le _, fun st h => (by cases h), st2.same sD, B2.same sD, .of sD⟩
  · rintro j H3 hj ⟨rs, vs, hD3, hR, hl3, ok3, c1, c2, hs3, st3, B3, U3⟩
    have hjM : j < M := by omega
    refine ⟨rfl, ?_⟩
    have rc3 := rc2.move st2 B2.lst U3
    have eB : k + (mm d - j) * rcd d = k + (mm d - (j + 1)) * rcd d + rcd d := by
      rw [show mm d - j = (mm d - (j + 1)) + 1 by omega, Nat.succ_mul]
      omega
    rw [eB] at B3
    refine ⟨_, rfl, _, rfl, _, rfl, b, sd, an, at_, nm, ti, _, _, rfl, d3, rc3, st3, B3, fun v r1 H4 hR1 ok1 k1 hs1 st4 B4 U4 => ?_⟩
    obtain ⟨ys3, hys3⟩ := B3.lst
    have kt : KeepT H3 H4 := .but2 hys3 st3 U4
    have hD4 := U4 _ _ nDb nDs hD3
    have k5 : KeepT H4 (upd H4 D (.lst (vs ++ [v]))) := .upd hD4 (fun xs z => by cases z)
    have r1c : 1 ≤ r1.count := by
      have := r1.count_eq
      have := Rs.rc_pos hR1
      omega
    refine ⟨_, hD4, by omega, rs.app r1, vs ++ [v], upd_same, RsIn.app (hR1.keep k5) ((hR.keep kt).keep k5), by rw [List.length_append, hl3]; rfl, Rs.app_ok ok1 ok3, by rw [Rs.app_count]; omega, by rw [Rs.app_count]; omega, ?_, ?_, ?_, ?_⟩
    · intro st h
      rw [Rs.app_starts] at h
      rcases List.mem_append.mp h with h | h
      · exact hs3 st h
      · exact hs1 st h
    · have e : L - M - ((rs.app r1).count - (j + 1)) = L - M - (rs.count - j) + 1 - r1.count := by rw [Rs.app_count]; omega
      rw [e]
      unfold StL
      rw [upd_ne (Ne.symm nDs)]
      exact st4
    · obtain ⟨x', y', z', e, rr⟩ := B4
      exact ⟨x', y', z', by rw [upd_ne (Ne.symm nDb)]; exact e, rr⟩
    · intro a o na nd e
      rw [upd_ne (ne_of_none e hD)]
      exact U4 _ _ na nd (U3 _ _ na nd e)
  · rintro H3 ⟨rs, vs, hD3, hR, hl3, ok3, c1, c2, hs3, st3, B3, U3⟩
    have eM' : ((M : Nat) : Int).toNat = M := Int.toNat_natCast M
    rw [eM'] at c1 c2 st3
    refine ⟨D, vs, rfl, .inl ⟨SqL.of hD3, fun p hp => ?_⟩⟩
    have s4 := same_new hp (.tup vs)
    refine q p vs rs _ upd_same (hR.same s4) ok3 (by omega) hs3 ?_ ((B3.same s4).less (by omega)) (V2.trans (U3.trans (.of s4)))
    rw [show L - rs.count = L - M - (rs.count - M) by omega]
    exact st3.same s4
end
end SH

set_option Elab.async false
set_option linter.all false
set_option maxRecDepth 100000
namespace SH
open PySem L2
theorem cutV_from {xs : List V} {n : Nat} (h : n ≤ xs.length) : cutV xs (some (n : Int)) none = xs.drop n := by
  unfold cutV
  rw [HT.sIx_nat, HT.sIx_none, Nat.min_eq_left h]
  exact List.take_of_length_le (by rw [List.length_drop]; exact Nat.le_refl _)
theorem cutV_to {xs : List V} {n : Nat} (h : n ≤ xs.length) : cutV xs none (some (n : Int)) = xs.take n := by
  unfold cutV
  rw [HT.sIx_nat, HT.sIx_none, Nat.min_eq_left h]
  show (xs.drop 0).take (n - 0) = _
  rw [List.drop_zero, Nat.sub_zero]
/-- the names from a place on and round, so many -/
def rot (nm : List Str) (a m : Nat) : List Str := (nm.drop a ++ nm.take a).take m
theorem rot_len {nm : List Str} {a m : Nat} (ha : a ≤ nm.length) (h : m ≤ nm.length) : (rot nm a m).length = m := by
  unfold rot
  rw [List.length_take, List.length_append, List.length_drop, List.length_take]
  omega
theorem rot_nd {nm : List Str} {a m : Nat} (h : nm.Nodup) : (rot nm a m).Nodup := by
  unfold rot
  have e : (nm.take a ++ nm.drop a).Nodup := by rw [List.take_append_drop]; exact h
  have e2 : (nm.drop a ++ nm.take a).Nodup := (List.perm_append_comm.nodup_iff).mp e
  exact e2.sublist (List.take_sublist _ _)
theorem rot_mem {nm : List Str} {a m : Nat} {s : Str} (h : s ∈ rot nm a m) : s ∈ nm := by
  unfold rot at h
  rcases List.mem_append.mp (List.mem_of_mem_take h) with h | h
  · exact List.mem_of_mem_drop h
  · exact List.mem_of_mem_take h
def spWorks : Sp := fun vs H Q _ => ∃ (b : Addr) (M k : Nat), vs = [.ref b, .int (M : Nat)] ∧ 1 ≤ M ∧ M ≤ 12 ∧ Bag H b (k + M * 1200000 + 1000) ∧
  ∀ (l : Addr) (us : List V) (Ws : List Wk) (H' : Hp), H l = none → H' l = some (.lst us) → WksIn H' Ws us → WksOk Ws → 1 ≤ Ws.length → Ws.length ≤ M → Bag H' b k → But b H H' → Q (.ref l) H'
section
variable {P : Program} {w : World} {K : PySem.W.Frag} {mg : Str → Option Value} {base : Heap}
theorem rowsAll {f t u r : Addr} {fd td ud rd : FuncData} (F : Fun K "_law_row" "_law_row" sRow f fd) (mF : mg "_law_row" = some (.ref f)) (bF : Binds K fd ["_law_bag_here", "_law_state", "_law_nested"] []) (FR : Fun K "_law_rows" "_law_rows" sRows r rd) (mR : mg "_law_rows" = some (.ref r)) (bR : Binds K rd ["_law_bag_here", "_law_state", "_law_nested"] [])
    (TK : Fk P w K mg base 1 "_law_take" t td ["_law_bag_here", "_law_many"] spTake) (TR : Fk P w K mg base 8 "_law_tree" u ud ["_law_bag_here", "_law_names_here", "_law_deep"] (spTrees 6)) (T : Bi mg) (mt : mg "tuple" = none) : ∀ d : Nat, FnOk P w K mg base CX0 (9 + 2 * d + 1) r rd ["_law_bag_here", "_law_state", "_law_nested"] (spRows d)
  | 0 => ok_rows (d := 0) FR TK ⟨ok_row (d := 0) F TK TR (fun h => absurd h (by decide)) mR FR.kp bR T mt, mF, F.kp, bF⟩ T mt
  | d + 1 => ok_rows (d := d + 1) FR TK ⟨ok_row (d := d + 1) F TK TR (fun _ => by
      have z := rowsAll F mF bF FR mR bR TK TR T mt d
      rw [show 8 + 2 * (d + 1) = 9 + 2 * d + 1 by omega]
      exact z) mR FR.kp bR T mt, mF, F.kp, bF⟩ T mt
set_option maxHeartbeats 4000000 in
theorem ok_works {f t n r : Addr} {fd td nd rd : FuncData} (F : Fun K "_law_works" "_law_works" sWorks f fd) (TK : Fk P w K mg base 1 "_law_take" t td ["_law_bag_here", "_law_many"] spTake) (NM : Fk P w K mg base 2 "_law_names" n nd ["_law_bag_here", "_law_many"] spNames) (RW : Fk P w K mg base 16 "_law_rows" r rd ["_law_bag_here", "_law_state", "_law_nested"] (spRows 3)) (T : Bi mg) (mt : mg "tuple" = none) :
    FnOk P w K mg base CX0 17 f fd ["_law_bag_here", "_law_most"] spWorks := by
  refine F.ok scWorks (fun vs H Q E h => ?_) (fun cdv A outer s H vs Q E hr h => ?_)
  · obtain ⟨b, M, k, rfl, _⟩ := h
    rfl
  obtain ⟨b, M, k, rfl, m1, m12, hB, q⟩ := h
  refine ⟨_, (pss_cons (ps_set (i := 2) scWorks.nd rfl (Or.inl rfl) (pe_call NM.G (hr.mono (by omega)) (by rfl) NM.m NM.k NM.b .nil pass0 (pa_cons (pv 0) (pa_cons (pe_op op_add pe_int (pe_call TK.G (hr.mono (by omega)) (by rfl) TK.m TK.k TK.b .nil pass0 (pa_cons (pv 0) (pa_cons (pv 1) pa_nil)))) pa_nil))))
    (pss_cons (ps_set (i := 3) scWorks.nd rfl (Or.inl rfl) (pe_call NM.G (hr.mono (by omega)) (by rfl) NM.m NM.k NM.b .nil pass0 (pa_cons (pv 0) (pa_cons pe_int pa_nil))))
    (pss_cons (ps_setLc (i := 4) (own := [("_law_title", 6)]) (g := gName 6) (tt := tYes) (by rfl) scWorks.nd rfl rfl (sw_true rfl rfl rfl (by decide +kernel)) (pi_list (pv 2)) (blkOk_by (own := [("_law_title", 6)]) (N := ["_law_bag_here", "_law_most", "_law_titles", "_law_names_here", "_law_some", "_law_found", "_law_title", "_law_many", "_law_at", "_law_handed", "_law_room", "_law_rows_here"]) (sc := defScope sWorks) (by decide +kernel)) (fun _ _ _ _ _ => pg_name (i := 6) scWorks.nd rfl (Or.inl rfl)) (fun _ _ _ _ _ => pts_nil) (fun _ _ _ _ _ => (pe_tup (pa_cons (pv 6) (pa_cons (pe_call TK.G (hr.mono (by omega)) (by rfl) TK.m TK.k TK.b .nil pass0 (pa_cons (pv 0) (pa_cons pe_int pa_nil))) pa_nil)))))
    (pss_cons (ps_set (i := 5) scWorks.nd rfl (Or.inl rfl) (pe_lst pa_nil))
    (pss_cons (ps_for PassesOwn.never rfl (pi_list (pv 4)) (pg_tup rfl (pgs_cons (pg_name (i := 6) scWorks.nd rfl (.inl rfl)) (pgs_cons (pg_name (i := 7) scWorks.nd rfl (.inl rfl)) pgs_nil)))
      (pss_cons (ps_set (i := 8) scWorks.nd rfl (Or.inl rfl) (pe_call TK.G (hr.mono (by omega)) (by rfl) TK.m TK.k TK.b .nil pass0 (pa_cons (pv 0) (pa_cons pe_int pa_nil))))
    (pss_cons (ps_set (i := 9) scWorks.nd rfl (Or.inl rfl) (pe_callTy call_tuple_of (by rfl) mt (by decide +kernel) (pa_cons (pe_slice sl_list (pe_op op_cat (pe_slice sl_list (pv 3) (po_some (pv 8)) po_none) (pe_slice sl_list (pv 3) po_none (po_some (pv 8)))) po_none (po_some (pv 7))) pa_nil)))
    (pss_cons (ps_set (i := 10) scWorks.nd rfl (Or.inl rfl) (pe_ix ix_list (pe_lst (pa_cons pe_int (pa_cons pe_int (pa_cons (pe_call TK.G (hr.mono (by omega)) (by rfl) TK.m TK.k TK.b .nil pass0 (pa_cons (pv 0) (pa_cons pe_int pa_nil))) (pa_cons (pe_call TK.G (hr.mono (by omega)) (by rfl) TK.m TK.k TK.b .nil pass0 (pa_cons (pv 0) (pa_cons pe_int pa_nil))) pa_nil))))) (pe_call TK.G (hr.mono (by omega)) (by rfl) TK.m TK.k TK.b .nil pass0 (pa_cons (pv 0) (pa_cons pe_int pa_nil))) (fun _ _ => rfl)))
    (pss_cons (ps_set (i := 11) scWorks.nd rfl (Or.inl rfl) (pe_call RW.G hr (by rfl) RW.m RW.k RW.b .nil pass0 (pa_cons (pv 0) (pa_cons (pe_disp (pps_cons pe_str (pv 3) (pps_cons pe_str (pv 4) (pps_cons pe_str pe_int pps_nil))) (by rfl) (by rfl) (fun z => by cases z) (by decide)) (pa_cons pe_int pa_nil)))))
    (pss_one (ps_expr (pe_bm PySem.F.plainAttrs_list PySem.F.slot_list_append PySem.F.type_list_append mt_append (pv 5) (pa_cons (pe_tup (pa_cons pe_str (pa_cons (pv 6) (pa_cons (pv 9) (pa_cons (pv 10) (pa_cons (pv 11) pa_nil)))))) pa_nil)))))))))
    (pss_one (ps_ret (pv 5)))))))), ?_⟩
  have hs : sizeLine = 16777216 := by decide
  have rw3 : 1 + mm 3 * rcd 3 = 1118283 := by decide
  -- titles
  refine ⟨_, rfl, _, rfl, _, rfl, b, _, k + M * 1200000 + 999, rfl, by omega, by omega, hB.less (by omega), fun d1 H1 a1 a2 B1 U1 => ?_⟩
  have ed : ((1 + d1).toNat : Int) = 1 + d1 := Int.toNat_of_nonneg (by omega)
  refine ⟨_, _, rfl, rfl, b, (1 + d1).toNat, k + M * 1200000 + 799, (by show [V.ref b, V.int (1 + d1)] = _; rw [ed]), by omega, B1.less (by omega), fun pt tl H2 npt hpt ltl okt B2 U2 => ?_⟩
  have ntb : pt ≠ b := fun z => by obtain ⟨ys, hy⟩ := B1.lst; rw [z, hy] at npt; cases npt
  -- names
  refine ⟨_, rfl, b, 5, k + M * 1200000 + 700, rfl, by decide, B2.less (by omega), fun pn nm H3 npn hpn lnm okn B3 U3 => ?_⟩
  have nnb : pn ≠ b := fun z => by obtain ⟨ys, hy⟩ := B2.lst; rw [z, hy] at npn; cases npn
  have hpt3 := U3 _ _ ntb hpt
  -- some
  refine ⟨_, rfl, pt, rfl, ⟨_, SqL.of hpt3⟩, ?_⟩
  intro D hD
  have nDb : D ≠ b := fun z => by obtain ⟨ys, hy⟩ := B3.lst; rw [z, hy] at hD; cases hD
  refine lc_list (K := K) (a := pt) (xs := tl.map V.str) (fun j H' => ∃ (ti : List (Str × Nat)) (vs : List V), H' D = some (.lst vs) ∧ TisIn H' ti vs ∧ ti.map Prod.fst = tl.take j ∧ (∀ x ∈ ti, x.2 ≤ 4) ∧ Bag H' b (k + M * 1200000 + 700 - j) ∧ But b H3 H') ?_ ?_ ?_ ?_
  · exact ⟨[], [], upd_same, ⟨rfl, fun i v e => (by simp at e)⟩, rfl, fun x h => (by cases h), B3.same (same_new hD _), But.new hD _⟩
  · rintro j H' _ ⟨_, _, _, _, _, _, _, U⟩
    exact SqL.of (U _ _ ntb hpt3)
  · rintro j x H4 hx ⟨ti, vs, hD4, tin, etl, h4, B4, U4⟩
    obtain ⟨z, hz, rfl⟩ : ∃ z, tl[j]? = some z ∧ V.str z = x := by
      rw [List.getElem?_map] at hx
      obtain ⟨x', h1, h2⟩ := Option.map_eq_some_iff.mp hx
      exact ⟨x', h1, h2⟩
    have hj : j < tl.length := (List.getElem?_eq_some_iff.mp hz).1
    have lti : ti.length = j := by
      have := congrArg List.length etl
      rw [List.length_map, List.length_take] at this
      omega
    refine ⟨rfl, ?_⟩
    refine ⟨_, rfl, _, rfl, b, 5, k + M * 1200000 + 699 - j, rfl, by decide, by decide, B4.less (by omega), fun d2 H5 b1 b2 B5 U5 => ?_⟩
    refine ⟨(by show 2 ≤ sizeLine; decide), fun p hp => ?_⟩
    have s6 := same_new hp (.tup [.str z, .int d2])
    have hD5 := U5 _ _ nDb hD4
    have e2 : ((d2.toNat : Nat) : Int) = d2 := Int.toNat_of_nonneg b1
    obtain ⟨ys4, hys4⟩ := B4.lst
    have kt : KeepT H4 (upd H5 p (.tup [.str z, .int d2])) := (KeepT.but hys4 U5).trans (.of s6)
    have hD6 := s6 _ _ hD5
    have k7 : KeepT (upd H5 p (.tup [.str z, .int d2])) (upd (upd H5 p (.tup [.str z, .int d2])) D (.lst (vs ++ [.ref p]))) := .upd hD6 (fun xs z => by cases z)
    have vl : vs.length = j := by rw [tin.1, lti]
    refine ⟨_, hD6, by omega, ti ++ [(z, d2.toNat)], vs ++ [.ref p], upd_same, ⟨by rw [List.length_append, List.length_append, tin.1]; rfl, fun i v e => ?_⟩, ?_, ?_, ?_, ?_⟩
    · by_cases hi : i < vs.length
      · rw [List.getElem?_append_left hi] at e
        obtain ⟨t', e1, p', e3, e4⟩ := tin.2 i v e
        refine ⟨t', ?_, p', e3, k7 _ _ (kt _ _ e4)⟩
        rw [List.getElem?_append_left (by rw [← tin.1]; exact hi)]
        exact e1
      · rw [List.getElem?_append_right (by omega)] at e
        have hi0 : i - vs.length = 0 := by
          rcases Nat.eq_zero_or_pos (i - vs.length) with z | z
          · exact z
          · rw [List.getElem?_eq_none (by show 1 ≤ _; omega)] at e
            cases e
        rw [hi0] at e
        cases e
        refine ⟨(z, d2.toNat), ?_, p, rfl, k7 _ _ ?_⟩
        · rw [List.getElem?_append_right (by rw [← tin.1]; omega), ← tin.1, hi0]
          rfl
        · show (upd H5 p (.tup [.str z, .int d2])) p = some (.tup [.str z, .int ((d2.toNat : Nat) : Int)])
          rw [e2]
          exact upd_same
    · rw [List.map_append, etl, List.take_add_one, hz]
      rfl
    · intro x hx'
      rcases List.mem_append.mp hx' with h | h
      · exact h4 x h
      · rw [List.mem_singleton.mp h]
        show d2.toNat ≤ 4
        omega
    · obtain ⟨x', y', z', e, rr⟩ := B5.same s6
      exact Bag.less ⟨x', y', z', by rw [upd_ne (Ne.symm nDb)]; exact e, rr⟩ (by omega)
    · intro a o na e
      rw [upd_ne (ne_of_none e hD)]
      exact s6 _ _ (U5 _ _ na (U4 _ _ na e))
  rintro H4 ⟨ti, tvs, hD4, tin, etl, h4, B4, U4⟩
  rw [List.length_map, List.take_length] at etl
  have hpn4 := U4 _ _ nnb hpn
  have lti : ti.length = tl.length := by rw [← etl, List.length_map]
  rw [List.length_map] at B4
  have tik : ∀ x ∈ ti, NmOk x.1 ∧ x.2 ≤ 4 := fun x hx => ⟨by
    have : x.1 ∈ tl := by rw [← etl]; exact List.mem_map_of_mem hx
    exact okt.each _ this, h4 x hx⟩
  have tnd : (ti.map Prod.fst).Nodup := by rw [etl]; exact okt.nd
  -- found
  refine ⟨Nat.zero_le _, fun l hl => ?_⟩
  have s5 := same_new hl (.lst [])
  have nlb : l ≠ b := fun z => by obtain ⟨ys, hy⟩ := B4.lst; rw [z, hy] at hl; cases hl
  have nlD : l ≠ D := fun z => by rw [z, hD4] at hl; cases hl
  have nlp : l ≠ pn := fun z => by rw [z, hpn4] at hl; cases hl
  refine ⟨_, rfl, D, rfl, ⟨_, SqL.of (s5 _ _ hD4)⟩, ?_⟩
  refine for_list (K := K) (a := D) (xs := tvs) (fun i σ H' => ∃ (us : List V) (Ws : List Wk) (y6 y7 y8 y9 y10 y11 : Option V), σ = [some (.ref b), some (.int (M : Nat)), some (.ref pt), some (.ref pn), some (.ref D), some (.ref l), y6, y7, y8, y9, y10, y11] ∧ H' l = some (.lst us) ∧ WksIn H' Ws us ∧ (∀ W ∈ Ws, W.ok ∧ ∀ st ∈ W.rows.starts, st ∈ ti) ∧ Ws.map (fun W => (W.name, W.names.length)) = ti.take i ∧
    Bag H' b (k + (M - i) * 1200000 + 600) ∧ But b H4 H') ?_ ?_ ?_ ?_
  · exact ⟨[], [], none, none, none, none, none, none, rfl, upd_same, ⟨rfl, fun i v e => (by simp at e)⟩, fun W h => (by cases h), rfl, (B4.same s5).less (by omega), .of s5⟩
  · rintro i σ H' _ ⟨_, _, _, _, _, _, _, _, _, _, _, _, _, _, U⟩
    exact SqL.of (U _ _ nDb hD4)
  · rintro i v σ H5 hv ⟨us, Ws, y6, y7, y8, y9, y10, y11, rfl, hl5, hW, hok, eti, B5, U5⟩
    obtain ⟨tt, htt, p, rfl, hp⟩ := tin.2 i v hv
    have hi : i < ti.length := (List.getElem?_eq_some_iff.mp htt).1
    have hiM : i < M := by omega
    have tm := tik tt (List.mem_of_getElem? htt)
    obtain ⟨ys4, hys4⟩ := B4.lst
    obtain ⟨ys5, hys5⟩ := B5.lst
    have kt45 : KeepT H4 H5 := .but hys4 U5
    have eB : k + (M - i) * 1200000 + 600 = k + (M - (i + 1)) * 1200000 + 600 + 1200000 := by
      rw [show M - i = (M - (i + 1)) + 1 by omega, Nat.succ_mul]
      omega
    rw [eB] at B5
    generalize hKK : k + (M - (i + 1)) * 1200000 + 600 = KK at B5
    refine ⟨p, _, rfl, SqT.of (kt45 _ _ hp), rfl, _, _, rfl, _, _, rfl, rfl, ?_⟩
    have hpn5 := U5 _ _ nnb hpn4
    -- at, handed
    refine ⟨_, rfl, b, 5, KK + 1190000, rfl, by decide, by decide, B5.less (by omega), fun at1 H6 a1' a2' B6 U6 => ?_⟩
    have ea : ((at1.toNat : Nat) : Int) = at1 := Int.toNat_of_nonneg a1'
    have hpn6 := U6 _ _ nnb hpn5
    have lnm' : (nm.map V.str).length = 5 := by rw [List.length_map, lnm]
    refine ⟨_, rfl, _, rfl, at1, rfl, pn, _, rfl, SqL.of hpn6, fun c1 hc1 => ?_⟩
    have ec1 : cutV (nm.map V.str) (some at1) none = (nm.drop at1.toNat).map V.str := by
      have := cutV_from (xs := nm.map V.str) (n := at1.toNat) (by rw [lnm']; omega)
      rw [ea] at this
      rw [this, List.map_drop]
    rw [ec1]
    have s7 := same_new hc1 (.lst ((nm.drop at1.toNat).map V.str))
    have h7 : (upd H6 c1 (.lst ((nm.drop at1.toNat).map V.str))) c1 = some (.lst ((nm.drop at1.toNat).map V.str)) := upd_same
    generalize upd H6 c1 (.lst ((nm.drop at1.toNat).map V.str)) = H7 at s7 h7
    refine ⟨_, rfl, _, rfl, at1, rfl, pn, _, rfl, SqL.of (s7 _ _ hpn6), fun c2 hc2 => ?_⟩
    have ec2 : cutV (nm.map V.str) none (some at1) = (nm.take at1.toNat).map V.str := by
      have := cutV_to (xs := nm.map V.str) (n := at1.toNat) (by rw [lnm']; omega)
      rw [ea] at this
      rw [this, List.map_take]
    rw [ec2]
    have s8 := same_new hc2 (.lst ((nm.take at1.toNat).map V.str))
    have h8 : (upd H7 c2 (.lst ((nm.take at1.toNat).map V.str))) c2 = some (.lst ((nm.take at1.toNat).map V.str)) := upd_same
    generalize upd H7 c2 (.lst ((nm.take at1.toNat).map V.str)) = H8 at s8 h8
    refine ⟨c1, c2, _, _, rfl, rfl, s8 _ _ h7, h8, ?_, fun c3 hc3 => ?_⟩
    · rw [List.length_map, List.length_map, List.length_drop, List.length_take]; omega
    rw [← List.map_append]
    have s9 := same_new hc3 (.lst ((nm.drop at1.toNat ++ nm.take at1.toNat).map V.str))
    have h9 : (upd H8 c3 (.lst ((nm.drop at1.toNat ++ nm.take at1.toNat).map V.str))) c3 = some (.lst ((nm.drop at1.toNat ++ nm.take at1.toNat).map V.str)) := upd_same
    generalize upd H8 c3 (.lst ((nm.drop at1.toNat ++ nm.take at1.toNat).map V.str)) = H9 at s9 h9
    have l5 : (nm.drop at1.toNat ++ nm.take at1.toNat).length = 5 := by rw [List.length_append, List.length_drop, List.length_take]; omega
    refine ⟨_, rfl, _, rfl, c3, _, rfl, SqL.of h9, fun c4 hc4 => ?_⟩
    have ec4 : cutV ((nm.drop at1.toNat ++ nm.take at1.toNat).map V.str) none (some ((tt.2 : Nat) : Int)) = (rot nm at1.toNat tt.2).map V.str := by
      rw [cutV_to (by rw [List.length_map, l5]; omega)]
      unfold rot
      rw [List.map_take]
    rw [ec4]
    have s10 := same_new hc4 (.lst ((rot nm at1.toNat tt.2).map V.str))
    refine ⟨c4, _, rfl, .inl ⟨SqL.of upd_same, fun pH hpH => ?_⟩⟩
    have s11 := same_new hpH (.tup ((rot nm at1.toNat tt.2).map V.str))
    have hH : (upd (upd H9 c4 (.lst ((rot nm at1.toNat tt.2).map V.str))) pH (.tup ((rot nm at1.toNat tt.2).map V.str))) pH = some (.tup ((rot nm at1.toNat tt.2).map V.str)) := upd_same
    have sA := s7.trans (s8.trans (s9.trans (s10.trans s11)))
    generalize upd (upd H9 c4 (.lst ((rot nm at1.toNat tt.2).map V.str))) pH (.tup ((rot nm at1.toNat tt.2).map V.str)) = HA at sA hH
    have BA := B6.same sA
    have UA : But b H5 HA := U6.trans (.of sA)
    obtain ⟨ysA, hysA⟩ := BA.lst
    -- room
    refine ⟨_, rfl, b, 10, KK + 1180000, rfl, by decide, by decide, BA.less (by omega), fun r1 HB c1' c2' BB UB => ?_⟩
    refine ⟨_, rfl, b, 1001, KK + 1170000, rfl, by decide, by decide, BB.less (by omega), fun r2 HC c3' c4' BC UC => ?_⟩
    refine ⟨(by show 4 ≤ sizeLine; decide), fun pl hpl => ?_⟩
    have sD := same_new hpl (.lst [.int 0, .int 1, .int r1, .int r2])
    have nplb : pl ≠ b := fun z => by obtain ⟨ys, hy⟩ := BC.lst; rw [z, hy] at hpl; cases hpl
    refine ⟨_, rfl, b, 4, KK + 1160000, rfl, by decide, by decide, (BC.same sD).less (by omega), fun r3 HE c5' c6' BE UE => ?_⟩
    have hpl' : HE pl = some (.lst [.int 0, .int 1, .int r1, .int r2]) := UE _ _ nplb upd_same
    have mr : ∃ room : Int, atI [V.int 0, V.int 1, V.int r1, V.int r2] r3 = some (.int room) ∧ 0 ≤ room ∧ room ≤ 1000 := by
      rcases (show r3 = 0 ∨ r3 = 1 ∨ r3 = 2 ∨ r3 = 3 by omega) with rfl | rfl | rfl | rfl
      · exact ⟨0, atI_nat (j := 0) rfl, by decide, by decide⟩
      · exact ⟨1, atI_nat (j := 1) rfl, by decide, by decide⟩
      · exact ⟨r1, atI_nat (j := 2) rfl, c1', by omega⟩
      · exact ⟨r2, atI_nat (j := 3) rfl, c3', by omega⟩
    obtain ⟨room, er, room0, room1⟩ := mr
    refine ⟨pl, _, _, _, rfl, rfl, SqL.of hpl', er, ?_⟩
    have UAE : But b HA HE := UB.trans (UC.trans ((But.of sD).trans UE))
    have U5E : But b H5 HE := UA.trans UAE
    have hpnE := U5E _ _ nnb hpn5
    have hDE := U5E _ _ nDb (U5 _ _ nDb hD4)
    have kt5E : KeepT H5 HE := .but hys5 U5E
    -- rows
    refine ⟨_, rfl, ?_⟩
    refine fun sd hsd => ?_
    have sE := same_new hsd (.dK [])
    refine ⟨_, rfl, _, rfl, upd_same, stK pn D 40, rfl, by show 3 ≤ 15; decide, ?_⟩
    have eM : mergeK [] (stK pn D 40) = stK pn D 40 := by
      unfold mergeK stK
      simp [putK, k_nl, k_tl, k_nt]
    have eU : upd (upd HE sd (.dK [])) sd (.dK (mergeK [] (stK pn D 40))) = upd HE sd (.dK (stK pn D 40)) := by
      rw [eM]
      funext a
      by_cases ha : a = sd
      · subst ha; rw [upd_same, upd_same]
      · rw [upd_ne ha, upd_ne ha, upd_ne ha]
    rw [eU]
    have sF := same_new hsd (.dK (stK pn D 40))
    have stF : StL (upd HE sd (.dK (stK pn D 40))) sd pn D 40 := upd_same
    generalize upd HE sd (.dK (stK pn D 40)) = HF at sF stF
    have rcF : RC HF b sd pn D nm ti := ⟨sF _ _ hpnE, ⟨tvs, sF _ _ hDE, tin.1, fun i v e => by
      obtain ⟨t', e1, p', e3, e4⟩ := tin.2 i v e
      exact ⟨t', e1, p', e3, sF _ _ (kt5E _ _ (kt45 _ _ e4))⟩⟩, nnb, nDb, by omega, by omega, fun s h => okn.each s h, by omega, by omega, tik⟩
    refine ⟨b, sd, pn, D, nm, ti, 40, KK, rfl, by decide, rcF, stF, (BE.same sF).less (by rw [rw3]; omega), fun pr xs rs HG hpr hR okR cR stR stG BG UG => ?_⟩
    obtain ⟨ysF, hysF⟩ := (BE.same sF).lst
    have ktFG : KeepT HF HG := .but2 hysF stF UG
    have UEG : But b HE HG := fun a o na e => UG a o na (ne_of_none e hsd) (sF _ _ e)
    have UAG : But b HA HG := UAE.trans UEG
    have U5G : But b H5 HG := U5E.trans UEG
    have hl' : HG l = some (.lst us) := U5G _ _ nlb hl5
    refine ⟨_, rfl, .inl ⟨rfl, _, SqL.of hl'⟩, ?_⟩
    refine ⟨_, rfl, _, rfl, _, rfl, _, rfl, (by show 5 ≤ sizeLine; decide), fun pw hpw => ?_⟩
    have sH := same_new hpw (.tup [.str "work", .str tt.1, .ref pH, .int room, .ref pr])
    have hlH := sH _ _ hl'
    have lW : Ws.length = i := by
      have := congrArg List.length eti
      rw [List.length_map, List.length_take] at this
      omega
    refine ⟨l, _, _, rfl, rfl, hlH, by rw [hW.1]; omega, ?_⟩
    have kI : KeepT (upd HG pw (.tup [.str "work", .str tt.1, .ref pH, .int room, .ref pr])) (upd (upd HG pw (.tup [.str "work", .str tt.1, .ref pH, .int room, .ref pr])) l (.lst (us ++ [.ref pw]))) := .upd hlH (fun xs z => by cases z)
    have ktAG : KeepT HA HG := .but hysA UAG
    have kt5G : KeepT H5 HG := .but hys5 U5G
    have W1 : WkIn (upd (upd HG pw (.tup [.str "work", .str tt.1, .ref pH, .int room, .ref pr])) l (.lst (us ++ [.ref pw]))) ⟨tt.1, rot nm at1.toNat tt.2, room, rs⟩ (.ref pw) :=
      ⟨pw, pH, pr, xs, rfl, kI _ _ upd_same, kI _ _ (sH _ _ (ktAG _ _ hH)), kI _ _ (sH _ _ hpr), (hR.same sH).keep kI⟩
    have rl : (rot nm at1.toNat tt.2).length = tt.2 := rot_len (by omega) (by omega)
    have W1ok : Wk.ok ⟨tt.1, rot nm at1.toNat tt.2, room, rs⟩ := ⟨tm.1, by rw [rl]; omega, fun s h => okn.each s (rot_mem h), rot_nd okn.nd, room0, room1, okR, cR⟩
    refine ⟨us ++ [.ref pw], Ws ++ [⟨tt.1, rot nm at1.toNat tt.2, room, rs⟩], _, _, _, _, _, _, rfl, upd_same, ⟨by rw [List.length_append, List.length_append, hW.1]; rfl, fun j v e => ?_⟩, ?_, ?_, ?_, ?_⟩
    · by_cases hj : j < us.length
      · rw [List.getElem?_append_left hj] at e
        obtain ⟨W, e1, e2⟩ := hW.2 j v e
        refine ⟨W, ?_, ((e2.keep kt5G).same sH).keep kI⟩
        rw [List.getElem?_append_left (by rw [← hW.1]; exact hj)]
        exact e1
      · rw [List.getElem?_append_right (by omega)] at e
        have hi0 : j - us.length = 0 := by
          rcases Nat.eq_zero_or_pos (j - us.length) with z | z
          · exact z
          · rw [List.getElem?_eq_none (by show 1 ≤ _; omega)] at e
            cases e
        rw [hi0] at e
        cases e
        refine ⟨_, ?_, W1⟩
        rw [List.getElem?_append_right (by rw [← hW.1]; omega), ← hW.1, hi0]
        rfl
    · intro W hW'
      rcases List.mem_append.mp hW' with h | h
      · exact hok W h
      · rw [List.mem_singleton.mp h]
        exact ⟨W1ok, stR⟩
    · rw [List.map_append, eti, List.take_add_one, htt]
      show ti.take i ++ [(tt.1, (rot nm at1.toNat tt.2).length)] = _
      rw [rl]
      rfl
    · obtain ⟨x', y', z', e, rr⟩ := BG.same sH
      exact ⟨x', y', z', by rw [upd_ne (Ne.symm nlb)]; exact e, rr⟩
    · intro a o na e
      have hal : a ≠ l := ne_of_none e hl
      rw [upd_ne hal]
      exact sH _ _ (U5G _ _ na (U5 _ _ na e))
  · rintro σ H5 ⟨us, Ws, y6, y7, y8, y9, y10, y11, rfl, hl5, hW, hok, eti, B5, U5⟩
    have eall : ti.take tvs.length = ti := List.take_of_length_le (by rw [tin.1]; exact Nat.le_refl _)
    rw [eall] at eti
    have lW : Ws.length = ti.length := by rw [← eti, List.length_map]
    have nmW : Ws.map Wk.name = ti.map Prod.fst := by rw [← eti, List.map_map]; rfl
    refine ⟨_, rfl, q l us Ws H5 ?_ hl5 hW ⟨by omega, fun W h => (hok W h).1, by rw [nmW]; exact tnd, fun W h st hst => ?_⟩ (by omega) (by omega) (B5.less (by omega)) (U1.trans (U2.trans (U3.trans (U4.trans U5))))⟩
    · cases z : H l with
      | none => rfl
      | some o =>
        have := U4 _ _ nlb (U3 _ _ nlb (U2 _ _ nlb (U1 _ _ nlb z)))
        rw [this] at hl
        cases hl
    · have hm := (hok W h).2 st hst
      rw [← eti] at hm
      obtain ⟨W', hW', e⟩ := List.mem_map.mp hm
      exact ⟨W', hW', by rw [← e], by rw [← e]⟩
end
end SH

set_option Elab.async false
set_option linter.all false
set_option maxRecDepth 100000
namespace SH
open PySem L2
/-! ### works as plain data -/
def Ex.dat : Ex → PyData
  | .num i => .tuple [.str "number", .int i]
  | .nam s => .tuple [.str "name", .str s]
  | .op g l r => .tuple [.str g.txt, l.dat, r.dat]
def optDat : Option Ex → PyData
  | none => .none
  | some e => e.dat
def Rs.dat : Rs → List PyData
  | .nil => []
  | .put x e t => .tuple [.str "put", .str x, e.dat] :: t.dat
  | .go w x f es t => .tuple [.str (goW w), .str x, .str f, .tuple (es.map Ex.dat)] :: t.dat
  | .wait x y oe t => .tuple [.str "wait", .str x, .str y, optDat oe] :: t.dat
  | .iff e a b t => .tuple [.str "if", e.dat, .tuple a.dat, .tuple b.dat] :: t.dat
  | .give w e t => .tuple [.str (giveW w), e.dat] :: t.dat
def Wk.dat (W : Wk) : PyData := .tuple [.str "work", .str W.name, .tuple (W.names.map PyData.str), .int W.room, .tuple W.rows.dat]
section
variable {K : PySem.W.Frag} {H : Hp}
theorem dp2 {a b : V} {c d : PyData} (h1 : Dp K H a c) (h2 : Dp K H b d) : DpAll K H [a, b] [c, d] := .cons h1 (.cons h2 .nil)
theorem dp3 {a b e : V} {c d f : PyData} (h1 : Dp K H a c) (h2 : Dp K H b d) (h3 : Dp K H e f) : DpAll K H [a, b, e] [c, d, f] := .cons h1 (dp2 h2 h3)
theorem dp4 {a b e g : V} {c d f i : PyData} (h1 : Dp K H a c) (h2 : Dp K H b d) (h3 : Dp K H e f) (h4 : Dp K H g i) : DpAll K H [a, b, e, g] [c, d, f, i] := .cons h1 (dp3 h2 h3 h4)
theorem Ex.dp : ∀ {e : Ex} {v : V}, TrIn H e v → Dp K H v e.dat
  | .num _, _, ⟨a, e, h⟩ => e ▸ .tup (SqT.of h) (dp2 (.str _) (.int _))
  | .nam _, _, ⟨a, e, h⟩ => e ▸ .tup (SqT.of h) (dp2 (.str _) (.str _))
  | .op _ _ _, _, ⟨a, x, y, e, h, l, r⟩ => e ▸ .tup (SqT.of h) (dp3 (.str _) (Ex.dp l) (Ex.dp r))
theorem exs_dp : ∀ {es : List Ex} {vs : List V}, TrsIn H es vs → DpAll K H vs (es.map Ex.dat)
  | [], _, e => by
    cases (show _ = [] from e)
    exact .nil
  | e :: es, _, ⟨v, r, k, h, t⟩ => k ▸ .cons (Ex.dp h) (exs_dp t)
theorem opt_dp : ∀ {oe : Option Ex} {v : V}, OptIn H oe v → Dp K H v (optDat oe)
  | none, _, e => by
    cases (show _ = V.non from e)
    exact .non
  | some e, _, h => Ex.dp h
theorem Rs.dp : ∀ {r : Rs} {vs : List V}, RsIn H r vs → DpAll K H vs r.dat
  | .nil, _, e => by
    cases (show _ = [] from e)
    exact .nil
  | .put _ _ t, _, ⟨a, v, r, k, h, e, q⟩ => k ▸ .cons (.tup (SqT.of h) (dp3 (.str _) (.str _) (Ex.dp e))) (Rs.dp q)
  | .go _ _ _ _ t, _, ⟨a, p, ws, r, k, h, hp, e, q⟩ => k ▸ .cons (.tup (SqT.of h) (dp4 (.str _) (.str _) (.str _) (.tup (SqT.of hp) (exs_dp e)))) (Rs.dp q)
  | .wait _ _ _ t, _, ⟨a, v, r, k, h, e, q⟩ => k ▸ .cons (.tup (SqT.of h) (dp4 (.str _) (.str _) (.str _) (opt_dp e))) (Rs.dp q)
  | .iff _ _ _ t, _, ⟨a, v, p, xs, p', ys, r, k, h, e, hp, A, hp', B, q⟩ => k ▸ .cons (.tup (SqT.of h) (dp4 (.str _) (Ex.dp e) (.tup (SqT.of hp) (Rs.dp A)) (.tup (SqT.of hp') (Rs.dp B)))) (Rs.dp q)
  | .give _ _ t, _, ⟨a, v, r, k, h, e, q⟩ => k ▸ .cons (.tup (SqT.of h) (dp2 (.str _) (Ex.dp e))) (Rs.dp q)
theorem strs_dp : ∀ (l : List Str), DpAll K H (l.map V.str) (l.map PyData.str)
  | [] => .nil
  | _ :: l => .cons (.str _) (strs_dp l)
theorem Wk.dp {W : Wk} {v : V} : WkIn H W v → Dp K H v W.dat
  | ⟨a, pn, pr, xs, e, h, hn, hp, q⟩ => e ▸ .tup (SqT.of h) (.cons (.str _) (dp4 (.str _) (.tup (SqT.of hn) (strs_dp _)) (.int _) (.tup (SqT.of hp) (Rs.dp q))))
theorem wks_dp : ∀ {Ws : List Wk} {vs : List V}, WksIn H Ws vs → DpAll K H vs (Ws.map Wk.dat)
  | [], [], _ => .nil
  | W :: Ws, v :: vs, h => by
    obtain ⟨W', e, k⟩ := h.2 0 v rfl
    cases e
    refine .cons (Wk.dp k) (wks_dp ⟨by have := h.1; simpa using this, fun i u hu => ?_⟩)
    obtain ⟨W', e, k⟩ := h.2 (i + 1) u (by simpa using hu)
    exact ⟨W', by simpa using e, k⟩
  | [], _ :: _, h => by have := h.1; simp at this
  | _ :: _, [], h => by have := h.1; simp at this
end
/-! ### it can lie anywhere -/
theorem fit_name {s : Str} (h : NmOk s) : PySem.PyData.canLay0 (.str s) = true := by
  show PySem.PyData.strOk s = true
  unfold PySem.PyData.strOk
  rw [Array.all_eq_true]
  intro i hi
  have q := h.1.2.2 s.cps[i] (by show _ ∈ s.cps.toList; exact Array.mem_toList_iff.mpr (Array.getElem_mem hi))
  exact decide_eq_true (by omega)
theorem lay_list (xs : List PyData) : PySem.PyData.canLayAll0 xs = xs.all PySem.PyData.canLay0 := by
  induction xs with
  | nil => rfl
  | cons x xs ih =>
    show (PySem.PyData.canLay0 x && PySem.PyData.canLayAll0 xs) = _
    rw [ih, List.all_cons]
theorem deep_list {n : Nat} : ∀ {xs : List PyData}, (∀ x ∈ xs, x.depth ≤ n) → PySem.PyData.depthAll xs ≤ n
  | [], _ => Nat.zero_le _
  | x :: xs, h => by
    show max x.depth (PySem.PyData.depthAll xs) ≤ n
    have h1 := h x (List.mem_cons_self ..)
    have h2 := deep_list fun y hy => h y (List.mem_cons_of_mem _ hy)
    omega
/-- can lie, and no deeper than n -/
def Fit (n : Nat) (d : PyData) : Prop := PySem.PyData.canLay0 d = true ∧ d.depth ≤ n
theorem Fit.up {n m : Nat} {d : PyData} (h : Fit n d) (k : n ≤ m) : Fit m d := ⟨h.1, Nat.le_trans h.2 k⟩
theorem fit_tup {n : Nat} {ds : List PyData} (h : ∀ d ∈ ds, Fit n d) : Fit (n + 1) (.tuple ds) := by
  refine ⟨?_, ?_⟩
  · show PySem.PyData.canLayAll0 ds = true
    rw [lay_list, List.all_eq_true]
    exact fun d hd => (h d hd).1
  · show PySem.PyData.depthAll ds + 1 ≤ n + 1
    have := deep_list (n := n) fun d hd => (h d hd).2
    omega
theorem fit_lst {n : Nat} {ds : List PyData} (h : ∀ d ∈ ds, Fit n d) : Fit (n + 1) (.list ds) := fit_tup h
theorem fit_str {n : Nat} {s : Str} (h : NmOk s) : Fit n (.str s) := ⟨fit_name h, Nat.zero_le _⟩
theorem fit_word {n : Nat} {s : Str} (h : PySem.PyData.strOk s = true) : Fit n (.str s) := ⟨h, Nat.zero_le _⟩
theorem fit_int {n : Nat} {i : Int} : Fit n (.int i) := ⟨rfl, Nat.zero_le _⟩
theorem all2 {p : PyData → Prop} {a b : PyData} (h1 : p a) (h2 : p b) : ∀ d ∈ [a, b], p d := fun d hd => by
  rcases List.mem_cons.mp hd with rfl | hd
  · exact h1
  · rw [List.mem_singleton.mp hd]
    exact h2
theorem all3 {p : PyData → Prop} {a b c : PyData} (h1 : p a) (h2 : p b) (h3 : p c) : ∀ d ∈ [a, b, c], p d := fun d hd => by
  rcases List.mem_cons.mp hd with rfl | hd
  · exact h1
  · exact all2 h2 h3 d hd
theorem all4 {p : PyData → Prop} {a b c e : PyData} (h1 : p a) (h2 : p b) (h3 : p c) (h4 : p e) : ∀ d ∈ [a, b, c, e], p d := fun d hd => by
  rcases List.mem_cons.mp hd with rfl | hd
  · exact h1
  · exact all3 h2 h3 h4 d hd
theorem Ex.fit : ∀ {n : Nat} {e : Ex}, Ex.fine n e → Fit n e.dat
  | 0, _, h => h.elim
  | n + 1, .num i, _ => fit_tup (all2 (fit_word (by decide +kernel)) fit_int)
  | n + 1, .nam s, h => fit_tup (all2 (fit_word (by decide +kernel)) (fit_str h))
  | n + 1, .op g l r, h => fit_tup (all3 (fit_word (by cases g <;> decide +kernel)) (Ex.fit h.1) (Ex.fit h.2))
theorem Rs.fit : ∀ (r : Rs) {n : Nat}, Rs.ok n r → ∀ d ∈ r.dat, Fit (8 + 2 * n) d
  | .nil, _, _ => fun d hd => by cases hd
  | .put x e t, n, h => fun d hd => by
    rcases List.mem_cons.mp hd with rfl | hd
    · exact (fit_tup (n := 6) (all3 (fit_word (by decide +kernel)) (fit_str h.1) (Ex.fit h.2.1))).up (by omega)
    · exact Rs.fit t h.2.2 d hd
  | .go w x f es t, n, h => fun d hd => by
    rcases List.mem_cons.mp hd with rfl | hd
    · exact (fit_tup (n := 7) (all4 (fit_word (by cases w <;> decide +kernel)) (fit_str h.1) (fit_str h.2.1) (fit_tup (n := 6) fun d hd => by
        obtain ⟨e, he, rfl⟩ := List.mem_map.mp hd
        exact Ex.fit (h.2.2.2.1 e he)))).up (by omega)
    · exact Rs.fit t h.2.2.2.2 d hd
  | .wait x y oe t, n, h => fun d hd => by
    rcases List.mem_cons.mp hd with rfl | hd
    · refine (fit_tup (n := 6) (all4 (fit_word (by decide +kernel)) (fit_str h.1) (fit_str h.2.1) ?_)).up (by omega)
      cases oe with
      | none => exact ⟨rfl, Nat.zero_le _⟩
      | some e => exact Ex.fit (h.2.2.1 e rfl)
    · exact Rs.fit t h.2.2.2 d hd
  | .iff e a b t, n, h => fun d hd => by
    rcases List.mem_cons.mp hd with rfl | hd
    · have hn := h.1
      exact (fit_tup (n := 9 + 2 * (n - 1)) (all4 (fit_word (by decide +kernel)) ((Ex.fit h.2.1).up (by omega)) (fit_tup (n := 8 + 2 * (n - 1)) (Rs.fit a h.2.2.1) |>.up (by omega)) (fit_tup (n := 8 + 2 * (n - 1)) (Rs.fit b h.2.2.2.1) |>.up (by omega)))).up (by omega)
    · exact Rs.fit t h.2.2.2.2 d hd
  | .give w e t, n, h => fun d hd => by
    rcases List.mem_cons.mp hd with rfl | hd
    · exact (fit_tup (n := 6) (all2 (fit_word (by cases w <;> decide +kernel)) (Ex.fit h.1))).up (by omega)
    · exact Rs.fit t h.2 d hd
theorem Wk.fit {W : Wk} (h : W.ok) : Fit 16 W.dat := fit_tup (n := 15) fun d hd => by
  rcases List.mem_cons.mp hd with rfl | hd
  · exact fit_word (by decide +kernel)
  · refine all4 (fit_str h.name) ((fit_tup (n := 1) fun d hd => ?_).up (by omega)) fit_int ((fit_tup (n := 14) (Rs.fit W.rows h.rows)).up (by omega)) d hd
    obtain ⟨s, hs, rfl⟩ := List.mem_map.mp hd
    exact fit_str (h.names s hs)
theorem shaped_of {n : Nat} {d : PyData} (h : Fit n d) (k : n ≤ 64) : SeqAt.shaped d = true := by
  unfold SeqAt.shaped
  rw [h.1, decide_eq_true (Nat.le_trans h.2 k)]
  rfl
/-- are these works equal to those? -/
def sameW (Ws Vs : List Wk) : Bool := PyData.eqv (.tuple (Ws.map Wk.dat)) (.tuple (Vs.map Wk.dat))
theorem sameW_list (Ws Vs : List Wk) : PyData.eqv (.list (Ws.map Wk.dat)) (.list (Vs.map Wk.dat)) = sameW Ws Vs := rfl
theorem wks_shaped {Ws : List Wk} (h : ∀ W ∈ Ws, W.ok) : SeqAt.shaped (.tuple (Ws.map Wk.dat)) = true ∧ SeqAt.shaped (.list (Ws.map Wk.dat)) = true := by
  have : ∀ d ∈ Ws.map Wk.dat, Fit 16 d := fun d hd => by
    obtain ⟨W, hW, rfl⟩ := List.mem_map.mp hd
    exact Wk.fit (h W hW)
  exact ⟨shaped_of (fit_tup this) (by decide), shaped_of (fit_lst this) (by decide)⟩
end SH

set_option Elab.async false
set_option linter.all false
set_option maxRecDepth 100000
namespace SH
open PySem L2
/-! ### the code of rows -/
def Rs.isN : Rs → Bool
  | .nil => true
  | _ => false
theorem isN_iff {H : Hp} : ∀ {r : Rs} {xs : List V}, RsIn H r xs → (r.isN = true ↔ xs = [])
  | .nil, _, h => by cases h; exact ⟨fun _ => rfl, fun _ => rfl⟩
  | .put _ _ _, _, ⟨a, v, r, e, _⟩ => by cases e; exact ⟨fun z => (by cases z), fun z => (by cases z)⟩
  | .go _ _ _ _ _, _, ⟨a, p, ws, r, e, _⟩ => by cases e; exact ⟨fun z => (by cases z), fun z => (by cases z)⟩
  | .wait _ _ _ _, _, ⟨a, v, r, e, _⟩ => by cases e; exact ⟨fun z => (by cases z), fun z => (by cases z)⟩
  | .iff _ _ _ _, _, ⟨a, v, p, xs, p', ys, r, e, _⟩ => by cases e; exact ⟨fun z => (by cases z), fun z => (by cases z)⟩
  | .give _ _ _, _, ⟨a, v, r, e, _⟩ => by cases e; exact ⟨fun z => (by cases z), fun z => (by cases z)⟩
theorem Rs.isN_nil {r : Rs} (h : r.isN = true) : r = .nil := by cases r <;> first | rfl | cases h
/-- an if's code, from its parts' -/
def ifC (e : Ex) (A : List PyData) (none : Bool) (B : List PyData) (p : Nat) : List PyData :=
  if none = true then .tuple [.str "if", e.dat, .int ((p + 1 + A.length : Nat) : Int)] :: A
  else .tuple [.str "if", e.dat, .int ((p + 2 + A.length : Nat) : Int)] :: (A ++ .tuple [.str "jump", .int ((p + 2 + A.length + B.length : Nat) : Int)] :: B)
def Rs.code : Rs → Nat → List PyData
  | .nil, _ => []
  | .put x e t, p => .tuple [.str "put", .str x, e.dat] :: t.code (p + 1)
  | .go w x f es t, p => .tuple [.str (goW w), .str x, .str f, .tuple (es.map Ex.dat)] :: t.code (p + 1)
  | .wait x y oe t, p => .tuple [.str "wait", .str x, .str y, optDat oe] :: t.code (p + 1)
  | .give w e t, p => .tuple [.str (giveW w), e.dat] :: t.code (p + 1)
  | .iff e a b t, p => ifC e (a.code (p + 1)) b.isN (b.code (p + 2 + (a.code (p + 1)).length)) p ++ t.code (p + (ifC e (a.code (p + 1)) b.isN (b.code (p + 2 + (a.code (p + 1)).length)) p).length)
def Rs.hdC : Rs → Nat → List PyData
  | .nil, _ => []
  | .put x e _, _ => [.tuple [.str "put", .str x, e.dat]]
  | .go w x f es _, _ => [.tuple [.str (goW w), .str x, .str f, .tuple (es.map Ex.dat)]]
  | .wait x y oe _, _ => [.tuple [.str "wait", .str x, .str y, optDat oe]]
  | .give w e _, _ => [.tuple [.str (giveW w), e.dat]]
  | .iff e a b _, p => ifC e (a.code (p + 1)) b.isN (b.code (p + 2 + (a.code (p + 1)).length)) p
theorem Rs.code_eq (r : Rs) (p : Nat) : r.code p = r.hdC p ++ r.tl.code (p + (r.hdC p).length) := by cases r <;> rfl
theorem ifC_len (e : Ex) (A : List PyData) (n : Bool) (B : List PyData) (p : Nat) : (ifC e A n B p).length ≤ 2 + A.length + B.length := by
  unfold ifC
  cases n
  · rw [if_neg Bool.false_ne_true, List.length_cons, List.length_append, List.length_cons]
    omega
  · rw [if_pos rfl, List.length_cons]
    omega
theorem Rs.code_len : ∀ (r : Rs) (p : Nat), (r.code p).length ≤ 2 * r.count
  | .nil, _ => Nat.zero_le _
  | .put _ _ t, p => by
    have := Rs.code_len t (p + 1)
    show (t.code (p + 1)).length + 1 ≤ 2 * (1 + t.count)
    omega
  | .go _ _ _ _ t, p => by
    have := Rs.code_len t (p + 1)
    show (t.code (p + 1)).length + 1 ≤ 2 * (1 + t.count)
    omega
  | .wait _ _ _ t, p => by
    have := Rs.code_len t (p + 1)
    show (t.code (p + 1)).length + 1 ≤ 2 * (1 + t.count)
    omega
  | .give _ _ t, p => by
    have := Rs.code_len t (p + 1)
    show (t.code (p + 1)).length + 1 ≤ 2 * (1 + t.count)
    omega
  | .iff e a b t, p => by
    have h1 := Rs.code_len a (p + 1)
    have h2 := Rs.code_len b (p + 2 + (a.code (p + 1)).length)
    have h3 := Rs.code_len t (p + (ifC e (a.code (p + 1)) b.isN (b.code (p + 2 + (a.code (p + 1)).length)) p).length)
    have h4 := ifC_len e (a.code (p + 1)) b.isN (b.code (p + 2 + (a.code (p + 1)).length)) p
    show (ifC e (a.code (p + 1)) b.isN (b.code (p + 2 + (a.code (p + 1)).length)) p ++ t.code (p + (ifC e (a.code (p + 1)) b.isN (b.code (p + 2 + (a.code (p + 1)).length)) p).length)).length ≤ 2 * (1 + a.count + b.count + t.count)
    rw [List.length_append]
    omega
theorem Rs.hdC_len (r : Rs) (p : Nat) : (r.hdC p).length ≤ 2 * r.rc := by
  cases r with
  | iff e a b t =>
    have h1 := Rs.code_len a (p + 1)
    have h2 := Rs.code_len b (p + 2 + (a.code (p + 1)).length)
    have h4 := ifC_len e (a.code (p + 1)) b.isN (b.code (p + 2 + (a.code (p + 1)).length)) p
    show (ifC e (a.code (p + 1)) b.isN (b.code (p + 2 + (a.code (p + 1)).length)) p).length ≤ 2 * (1 + a.count + b.count)
    omega
  | nil => exact Nat.zero_le _
  | _ => exact (by decide : 1 ≤ 2 * 1)
/-! ### its text has an end -/
theorem nice_nm {n : Nat} {s : Str} (h : NmOk s) : Nice n 82 (.str s) := by
  refine ⟨fit_name h, Nat.zero_le _, rfl, rfl, rfl, ?_⟩
  have l8 := h.1.2.1
  have := StrLaws.reprText_len s (fun c hc => by
    have := h.1.2.2 c hc
    omega)
  rw [codes_len] at l8
  show (reprText s).length ≤ 82
  omega
def exB : Nat → Nat
  | 0 => 130
  | n + 1 => 2 * exB n + 20
theorem exB_ge (n : Nat) : 130 ≤ exB n := by
  induction n with
  | zero => exact Nat.le_refl _
  | succ n ih => show 130 ≤ 2 * exB n + 20; omega
theorem Ex.nice : ∀ {n : Nat} {e : Ex}, Ex.fine n e → Nice n (exB n) e.dat
  | 0, _, h => h.elim
  | n + 1, .num i, h => by
    have hb := exB_ge n
    have e5 : (1000000 : Int) ^ 5 < 2 ^ 100 := by decide
    have hi : i.natAbs < 2 ^ 100 := by have h1 := h.1; have h2 := h.2; omega
    exact (nice_tup (.cons (nice_lit (m := 8) (by decide +kernel) (by decide +kernel)) (.cons (nice_int hi) .nil))).up (Nat.le_refl _) (by show _ ≤ 2 * exB n + 20; omega)
  | n + 1, .nam s, h => by
    have hb := exB_ge n
    exact (nice_tup (.cons (nice_lit (m := 6) (by decide +kernel) (by decide +kernel)) (.cons (nice_nm h) .nil))).up (Nat.le_refl _) (by show _ ≤ 2 * exB n + 20; omega)
  | n + 1, .op g l r, h => by
    exact (nice_tup (.cons (nice_lit (m := 4) (by cases g <;> decide +kernel) (by cases g <;> decide +kernel)) (.cons (Ex.nice h.1) (.cons (Ex.nice h.2) .nil)))).up (Nat.le_refl _) (by show _ ≤ 2 * exB n + 20; omega)
theorem exB6 : exB 6 = 9580 := by decide
theorem Ex.nice6 {e : Ex} (h : Ex.fine 6 e) : Nice 6 9580 e.dat := by
  have := Ex.nice h
  rwa [exB6] at this
theorem nice_put {x : Str} {e : Ex} (hx : NmOk x) (he : Ex.fine 6 e) : Nice 8 40000 (.tuple [.str "put", .str x, e.dat]) :=
  (nice_tup (n := 6) (.cons (nice_lit (m := 5) (by decide +kernel) (by decide +kernel)) (.cons (nice_nm hx) (.cons (Ex.nice6 he) .nil)))).up (by omega) (by omega)
theorem nice_go {w : Bool} {x f : Str} {es : List Ex} (hx : NmOk x) (hf : NmOk f) (h4 : es.length ≤ 4) (he : ∀ e ∈ es, Ex.fine 6 e) : Nice 8 40000 (.tuple [.str (goW w), .str x, .str f, .tuple (es.map Ex.dat)]) := by
  have q : Nices 6 ((es.map Ex.dat).length * (9580 + 2)) (es.map Ex.dat) := Nices.all fun d hd => by
    obtain ⟨e, h, rfl⟩ := List.mem_map.mp hd
    exact Ex.nice6 (he e h)
  rw [List.length_map] at q
  exact (nice_tup (n := 7) (.cons (nice_lit (m := 6) (by cases w <;> decide +kernel) (by cases w <;> decide +kernel)) (.cons (nice_nm hx) (.cons (nice_nm hf) (.cons (nice_tup q) .nil))))).up (by omega) (by omega)
theorem nice_wait {x y : Str} {oe : Option Ex} (hx : NmOk x) (hy : NmOk y) (he : ∀ e, oe = some e → Ex.fine 6 e) : Nice 8 40000 (.tuple [.str "wait", .str x, .str y, optDat oe]) := by
  have q : Nice 6 9580 (optDat oe) := by
    cases oe with
    | none => exact ⟨rfl, Nat.zero_le _, rfl, rfl, rfl, by decide +kernel⟩
    | some e => exact Ex.nice6 (he e rfl)
  exact (nice_tup (n := 6) (.cons (nice_lit (m := 6) (by decide +kernel) (by decide +kernel)) (.cons (nice_nm hx) (.cons (nice_nm hy) (.cons q .nil))))).up (by omega) (by omega)
theorem nice_give {w : Bool} {e : Ex} (he : Ex.fine 6 e) : Nice 8 40000 (.tuple [.str (giveW w), e.dat]) :=
  (nice_tup (n := 6) (.cons (nice_lit (m := 6) (by cases w <;> decide +kernel) (by cases w <;> decide +kernel)) (.cons (Ex.nice6 he) .nil))).up (by omega) (by omega)
theorem nice_if {e : Ex} {p : Nat} (he : Ex.fine 6 e) (hp : p < 2 ^ 100) : Nice 8 40000 (.tuple [.str "if", e.dat, .int (p : Int)]) :=
  (nice_tup (n := 6) (.cons (nice_lit (m := 4) (by decide +kernel) (by decide +kernel)) (.cons (Ex.nice6 he) (.cons (nice_int (by simpa using hp)) .nil)))).up (by omega) (by omega)
theorem nice_jump {p : Nat} (hp : p < 2 ^ 100) : Nice 8 40000 (.tuple [.str "jump", .int (p : Int)]) :=
  (nice_tup (n := 6) (.cons (nice_lit (m := 6) (by decide +kernel) (by decide +kernel)) (.cons (nice_int (by simpa using hp)) .nil))).up (by omega) (by omega)
theorem ifC_nice {e : Ex} {A B : List PyData} {n : Bool} {p : Nat} (he : Ex.fine 6 e) (hA : ∀ d ∈ A, Nice 8 40000 d) (hB : ∀ d ∈ B, Nice 8 40000 d) (hp : p + 2 + A.length + B.length < 2 ^ 100) : ∀ d ∈ ifC e A n B p, Nice 8 40000 d := by
  unfold ifC
  intro d hd
  cases n
  · rw [if_neg Bool.false_ne_true] at hd
    rcases List.mem_cons.mp hd with rfl | hd
    · exact nice_if he (by omega)
    · rcases List.mem_append.mp hd with hd | hd
      · exact hA d hd
      · rcases List.mem_cons.mp hd with rfl | hd
        · exact nice_jump (by omega)
        · exact hB d hd
  · rw [if_pos rfl] at hd
    rcases List.mem_cons.mp hd with rfl | hd
    · exact nice_if he (by omega)
    · exact hA d hd
theorem Rs.code_nice : ∀ (r : Rs) {n p : Nat}, Rs.ok n r → p + 2 * r.count < 2 ^ 100 → ∀ d ∈ r.code p, Nice 8 40000 d
  | .nil, _, _, _, _ => fun d hd => by cases hd
  | .put x e t, n, p, h, k => fun d hd => by
    have k' : p + 2 * (1 + t.count) < 2 ^ 100 := k
    rcases List.mem_cons.mp hd with rfl | hd
    · exact nice_put h.1 h.2.1
    · exact Rs.code_nice t h.2.2 (by omega) d hd
  | .go w x f es t, n, p, h, k => fun d hd => by
    have k' : p + 2 * (1 + t.count) < 2 ^ 100 := k
    rcases List.mem_cons.mp hd with rfl | hd
    · exact nice_go h.1 h.2.1 h.2.2.1 h.2.2.2.1
    · exact Rs.code_nice t h.2.2.2.2 (by omega) d hd
  | .wait x y oe t, n, p, h, k => fun d hd => by
    have k' : p + 2 * (1 + t.count) < 2 ^ 100 := k
    rcases List.mem_cons.mp hd with rfl | hd
    · exact nice_wait h.1 h.2.1 h.2.2.1
    · exact Rs.code_nice t h.2.2.2 (by omega) d hd
  | .give w e t, n, p, h, k => fun d hd => by
    have k' : p + 2 * (1 + t.count) < 2 ^ 100 := k
    rcases List.mem_cons.mp hd with rfl | hd
    · exact nice_give h.1
    · exact Rs.code_nice t h.2 (by omega) d hd
  | .iff e a b t, n, p, h, k => fun d hd => by
    have k' : p + 2 * (1 + a.count + b.count + t.count) < 2 ^ 100 := k
    have h1 := Rs.code_len a (p + 1)
    have h2 := Rs.code_len b (p + 2 + (a.code (p + 1)).length)
    have h4 := ifC_len e (a.code (p + 1)) b.isN (b.code (p + 2 + (a.code (p + 1)).length)) p
    rcases List.mem_append.mp hd with hd | hd
    · exact ifC_nice h.2.1 (Rs.code_nice a h.2.2.1 (by omega)) (Rs.code_nice b h.2.2.2.1 (by omega)) (by omega) d hd
    · exact Rs.code_nice t h.2.2.2.2 (by omega) d hd
/-- a whole work's code -/
def wcode (rs : Rs) : List PyData := rs.code 0 ++ [.tuple [.str "give", .tuple [.str "number", .int 0]]]
theorem wcode_nice {n : Nat} {rs : Rs} (h : Rs.ok n rs) (hc : rs.count ≤ 40) : ∀ d ∈ wcode rs, Nice 8 40000 d := fun d hd => by
  rcases List.mem_append.mp hd with hd | hd
  · exact Rs.code_nice rs h (by have : (80 : Nat) < 2 ^ 100 := by decide
                                omega) d hd
  · rw [List.mem_singleton.mp hd]
    exact nice_give (w := false) (e := .num 0) ⟨by decide, by decide⟩
theorem wcode_len (rs : Rs) : (wcode rs).length ≤ 2 * rs.count + 1 := by
  unfold wcode
  have := Rs.code_len rs 0
  rw [List.length_append, List.length_singleton]
  omega
theorem code_niceL {n : Nat} {rs : Rs} (h : Rs.ok n rs) (hc : rs.count ≤ 40) {more : List PyData} (hm : ∀ d ∈ more, Nice 8 40000 d) (hl : more.length ≤ 10) {ds : List PyData} (hd : ∀ d ∈ ds, d ∈ wcode rs ++ more) (l : ds.length = (wcode rs ++ more).length) : NiceL ds := by
  have := wcode_len rs
  have hs : sizeLine = 16777216 := by decide
  rw [List.length_append] at l
  have q : Nices 8 (ds.length * (40000 + 2)) ds := Nices.all fun d m => by
    rcases List.mem_append.mp (hd d m) with z | z
    · exact wcode_nice h hc d z
    · exact hm d z
  refine niceL q (by decide) ?_
  have : ds.length ≤ 91 := by omega
  have := Nat.mul_le_mul_right (40000 + 2) this
  omega
end SH

set_option Elab.async false
set_option linter.all false
set_option maxRecDepth 100000
namespace SH
open PySem L2
abbrev sCodeOf : Stmt := topS 1
abbrev sRowsCode : Stmt := topS 2
abbrev sIfCode : Stmt := topS 3
theorem scCodeOf : FnScope ["work"] ["work"] (defScope sCodeOf) := ⟨rfl, rfl, rfl, by decide +kernel, rfl, by decide +kernel, by decide +kernel⟩
theorem scRowsCode : FnScope ["rows", "place", "code", "row", "behind"] ["rows", "place"] (defScope sRowsCode) := ⟨rfl, rfl, rfl, by decide +kernel, rfl, by decide +kernel, by decide +kernel⟩
theorem scIfCode : FnScope ["row", "place", "word", "condition", "first_rows", "second_rows", "first", "behind", "second"] ["row", "place"] (defScope sIfCode) := ⟨rfl, rfl, rfl, by decide +kernel, rfl, by decide +kernel, by decide +kernel⟩
def spRowsCode (K : PySem.W.Frag) (n : Nat) : Sp := fun vs H Q _ => ∃ (p : Addr) (xs : List V) (rs : Rs) (pl : Nat), vs = [.ref p, .int pl] ∧ H p = some (.tup xs) ∧ RsIn H rs xs ∧ Rs.ok n rs ∧ rs.count ≤ 40 ∧ pl + 2 * rs.count ≤ 1000 ∧
  ∀ (l : Addr) (us : List V) (H' : Hp), Same H H' → H l = none → H' l = some (.lst us) → DpAll K H' us (rs.code pl) → Q (.ref l) H'
def spIfCode (K : PySem.W.Frag) (n : Nat) : Sp := fun vs H Q _ => ∃ (v : V) (rs : Rs) (r : List V) (pl : Nat), vs = [v, .int pl] ∧ RsIn H rs (v :: r) ∧ Rs.ok n rs ∧ rs.isIf = true ∧ rs.count ≤ 40 ∧ pl + 2 * rs.count ≤ 1000 ∧
  ∀ (l : Addr) (us : List V) (H' : Hp), Same H H' → H l = none → H' l = some (.lst us) → DpAll K H' us (rs.hdC pl) → Q (.ref l) H'
def spCodeOf (K : PySem.W.Frag) : Sp := fun vs H Q _ => ∃ (v : V) (W : Wk) (n : Nat), n ≤ 3 ∧ vs = [v] ∧ WkIn H W v ∧ Rs.ok n W.rows ∧ W.rows.count ≤ 40 ∧
  ∀ (l : Addr) (us : List V) (H' : Hp), Same H H' → H l = none → H' l = some (.lst us) → DpAll K H' us (wcode W.rows) → Q (.ref l) H'
/-- a row that is no if: its word, and what it is -/
theorem plain_row {K : PySem.W.Frag} {H : Hp} {rs : Rs} {v : V} {r : List V} (h : RsIn H rs (v :: r)) (k : rs.isIf = false) : ∃ (a : Addr) (z : Str) (us : List V) (d : PyData), v = .ref a ∧ H a = some (.tup (.str z :: us)) ∧ z ≠ "if" ∧ Dp K H v d ∧ ∀ p, rs.hdC p = [d] := by
  cases rs with
  | nil => cases h
  | put x e t =>
    obtain ⟨a, u, r', e1, ha, te, _⟩ := h
    cases e1
    exact ⟨a, _, _, _, rfl, ha, by decide, .tup (SqT.of ha) (dp3 (.str _) (.str _) (Ex.dp te)), fun _ => rfl⟩
  | go w x f es t =>
    obtain ⟨a, p, ws, r', e1, ha, hp, te, _⟩ := h
    cases e1
    exact ⟨a, _, _, _, rfl, ha, by cases w <;> decide, .tup (SqT.of ha) (dp4 (.str _) (.str _) (.str _) (.tup (SqT.of hp) (exs_dp te))), fun _ => rfl⟩
  | wait x y oe t =>
    obtain ⟨a, u, r', e1, ha, te, _⟩ := h
    cases e1
    exact ⟨a, _, _, _, rfl, ha, by decide, .tup (SqT.of ha) (dp4 (.str _) (.str _) (.str _) (opt_dp te)), fun _ => rfl⟩
  | give w e t =>
    obtain ⟨a, u, r', e1, ha, te, _⟩ := h
    cases e1
    exact ⟨a, _, _, _, rfl, ha, by cases w <;> decide, .tup (SqT.of ha) (dp2 (.str _) (Ex.dp te)), fun _ => rfl⟩
  | iff e a b t => cases k
theorem if_row {H : Hp} {rs : Rs} {v : V} {r : List V} (h : RsIn H rs (v :: r)) (k : rs.isIf = true) : ∃ (a : Addr) (us : List V), v = .ref a ∧ H a = some (.tup (.str "if" :: us)) := by
  cases rs with
  | iff e A B t =>
    obtain ⟨a, u, p, xs, p', ys, r', e1, ha, _⟩ := h
    cases e1
    exact ⟨a, _, rfl, ha⟩
  | nil => cases h
  | _ => cases k
theorem code_ot {n : Nat} {rs : Rs} {pl : Nat} (h : Rs.ok n rs) (k : pl + 2 * rs.count ≤ 1000) : onlyTs (rs.code pl) = true := by
  have k2 : (1000 : Nat) < 2 ^ 100 := by decide
  exact onlyTs_mem fun d hd => (Rs.code_nice rs h (by omega) d hd).ot
theorem hdC_ot {n : Nat} {rs : Rs} {pl : Nat} (h : Rs.ok n rs) (k : pl + 2 * rs.count ≤ 1000) : onlyTs (rs.hdC pl) = true := onlyTs_mem fun d hd => by
  have := mem_onlyTs (code_ot h k) d
  rw [Rs.code_eq] at this
  exact this (List.mem_append_left _ hd)
theorem Rs.ok_up : ∀ {r : Rs} {n m : Nat}, n ≤ m → Rs.ok n r → Rs.ok m r
  | .nil, _, _, _, _ => trivial
  | .put _ _ t, _, _, k, h => ⟨h.1, h.2.1, Rs.ok_up k h.2.2⟩
  | .go _ _ _ _ t, _, _, k, h => ⟨h.1, h.2.1, h.2.2.1, h.2.2.2.1, Rs.ok_up k h.2.2.2.2⟩
  | .wait _ _ _ t, _, _, k, h => ⟨h.1, h.2.1, h.2.2.1, Rs.ok_up k h.2.2.2⟩
  | .iff _ a b t, _, _, k, h => ⟨Nat.le_trans h.1 k, h.2.1, Rs.ok_up (by omega) h.2.2.1, Rs.ok_up (by omega) h.2.2.2.1, Rs.ok_up k h.2.2.2.2⟩
  | .give _ _ t, _, _, k, h => ⟨h.1, Rs.ok_up k h.2⟩
section
variable {P : Program} {w : World} {K : PySem.W.Frag} {mg : Str → Option Value} {base : Heap}
theorem ok_rowsCode {n k : Nat} {f i : Addr} {fd idd : FuncData} (F : Fun K "rows_code" "rows_code" sRowsCode f fd) (IC : Fk P w K mg base k "if_code" i idd ["row", "place"] (spIfCode K n)) (T : Bi mg) : FnOk P w K mg base CX0 (k + 1) f fd ["rows", "place"] (spRowsCode K n) := by
  refine F.ok scRowsCode (fun vs H Q E h => ?_) (fun cdv A outer s H vs Q E hr h => ?_)
  · obtain ⟨p, xs, rs, pl, rfl, _⟩ := h
    rfl
  obtain ⟨p, xs, rs, pl, rfl, hp, hR, hok, hc, hpl, q⟩ := h
  refine ⟨_, (pss_cons (ps_set (i := 2) scRowsCode.nd rfl (Or.inl rfl) (pe_lst pa_nil))
    (pss_cons (ps_for PassesOwn.never rfl (pi_tup (pv 0)) (pg_name (i := 3) scRowsCode.nd rfl (.inl rfl))
      (pss_cons (ps_set (i := 4) scRowsCode.nd rfl (Or.inl rfl) (pe_op op_add (pv 1) (pe_callB call_len_seq (by rfl) T.len (by decide +kernel) (pa_cons (pv 2) pa_nil))))
    (pss_one (ps_expr (pe_bm PySem.F.plainAttrs_list PySem.F.slot_list_extend PySem.F.type_list_extend mt_extend (pv 2) (pa_cons (pe_ifExp (pt_cmpR op_eq (pe_ix ix_tup (pv 3) pe_int (fun _ _ => rfl)) pe_str (nomark _)) (pe_call IC.G hr (by rfl) IC.m IC.k IC.b .nil pass0 (pa_cons (pv 3) (pa_cons (pv 4) pa_nil))) (pe_lst (pa_cons (pv 3) pa_nil))) pa_nil))))))
    (pss_one (ps_ret (pv 2))))), ?_⟩
  have hs : sizeLine = 16777216 := by decide
  refine ⟨Nat.zero_le _, fun l hl => ?_⟩
  refine ⟨_, rfl, p, rfl, ⟨_, SqT.of ((same_new hl _) _ _ hp)⟩, ?_⟩
  refine for_tup (K := K) (a := p) (xs := xs) (fun i σ H' => ∃ (rs' : Rs) (done : List PyData) (us : List V) (y z : Option V), σ = [some (.ref p), some (.int pl), some (.ref l), y, z] ∧ RsIn H' rs' (xs.drop i) ∧ Rs.ok n rs' ∧ done.length + 2 * rs'.count ≤ 2 * rs.count ∧ done ++ rs'.code (pl + done.length) = rs.code pl ∧ H' l = some (.lst us) ∧ DpAll K H' us done ∧ Same H H') ?_ ?_ ?_ ?_
  · exact ⟨rs, [], [], none, none, rfl, hR.same (same_new hl _), hok, by show 0 + _ ≤ _; omega, rfl, upd_same, .nil, same_new hl _⟩
  · rintro i σ H' _ ⟨_, _, _, _, _, _, _, _, _, _, _, _, s'⟩
    exact SqT.of (s' _ _ hp)
  · rintro i v σ H1 hv ⟨rs', done, us, y, z, rfl, hR', ok', hc', hd', hl1, hdp, s1⟩
    have hdr : xs.drop i = v :: xs.drop (i + 1) := by
      obtain ⟨hi, e⟩ := List.getElem?_eq_some_iff.mp hv
      rw [List.drop_eq_getElem_cons hi, e]
    rw [hdr] at hR'
    have ce := rs'.count_eq
    have hh := rs'.hdC_len (pl + done.length)
    have ul := DpAll.len hdp
    have hot := code_ot hok hpl
    have dot : onlyTs done = true := onlyTs_mem fun d hd => mem_onlyTs hot d (by rw [← hd']; exact List.mem_append_left _ hd)
    refine ⟨_, rfl, _, rfl, l, us, rfl, .inl (SqL.of hl1), _, _, rfl, rfl, ?_⟩
    have ep : (pl : Int) + ((us.length : Nat) : Int) = ((pl + done.length : Nat) : Int) := by rw [ul]; omega
    refine ⟨_, rfl, .inl ⟨rfl, _, SqL.of hl1⟩, ?_⟩
    have fin : ∀ (l2 : Addr) (us2 : List V) (H2 : Hp), Same H1 H2 → H2 l2 = some (.lst us2) → DpAll K H2 us2 (rs'.hdC (pl + done.length)) → us.length + us2.length ≤ sizeLine ∧ ∀ z0 : V,
        (∃ (rs' : Rs) (done : List PyData) (us' : List V) (y z : Option V), [some (V.ref p), some (V.int pl), some (V.ref l), some v, some z0] = [some (.ref p), some (.int pl), some (.ref l), y, z] ∧ RsIn (upd H2 l (.lst (us ++ us2))) rs' (xs.drop (i + 1)) ∧ Rs.ok n rs' ∧ done.length + 2 * rs'.count ≤ 2 * rs.count ∧ done ++ rs'.code (pl + done.length) = rs.code pl ∧ (upd H2 l (.lst (us ++ us2))) l = some (.lst us') ∧ DpAll K (upd H2 l (.lst (us ++ us2))) us' done ∧ Same H (upd H2 l (.lst (us ++ us2)))) := by
      intro l2 us2 H2 s2 h2 d2
      have hl2 := s2 _ _ hl1
      have u2 := DpAll.len d2
      have hdd : onlyTs (rs'.hdC (pl + done.length)) = true := hdC_ot ok' (by omega)
      have kt : KpT K H2 (upd H2 l (.lst (us ++ us2))) := KpT.lst hl2
      have e1 : rs'.code (pl + done.length) = rs'.hdC (pl + done.length) ++ rs'.tl.code (pl + done.length + (rs'.hdC (pl + done.length)).length) := Rs.code_eq _ _
      refine ⟨by omega, fun z0 => ⟨rs'.tl, done ++ rs'.hdC (pl + done.length), us ++ us2, _, _, rfl, RsIn.upd_lst hl2 (hR'.tl.same s2), Rs.ok_tl ok', ?_, ?_, upd_same, ?_, ?_⟩⟩
      · rw [List.length_append]; omega
      · rw [List.length_append, List.append_assoc, ← Nat.add_assoc, ← e1]; exact hd'
      · exact DpAll.app (DpAll.keep kt dot (DpAll.keep (Same.kpT s2) dot hdp)) (DpAll.keep kt hdd d2)
      · intro x o z
        rw [upd_ne (ne_of_none z hl)]
        exact s2 _ _ (s1 _ _ z)
    cases ki : rs'.isIf with
    | true =>
      obtain ⟨a, us0, rfl, ha⟩ := if_row hR' ki
      refine ⟨_, rfl, a, _, 0, _, rfl, rfl, SqT.of ha, atI_nat rfl, rfl, ?_⟩
      refine ⟨true, (by decide +kernel), ?_⟩
      refine ⟨_, rfl, _, rfl, V.ref a, rs', _, pl + done.length, (by show [V.ref a, V.int ((pl : Int) + ((us.length : Nat) : Int))] = _; rw [ep]), hR', ok', ki, by omega, by omega, fun l2 us2 H2 s2 nl2 h2 d2 => ?_⟩
      obtain ⟨f1, f2⟩ := fin l2 us2 H2 s2 h2 d2
      exact ⟨l, l2, _, _, rfl, rfl, s2 _ _ hl1, h2, f1, f2 _⟩
    | false =>
      obtain ⟨a, z0, us0, d0, rfl, ha, hz, hd0, he0⟩ := plain_row (K := K) hR' ki
      refine ⟨_, rfl, a, _, 0, _, rfl, rfl, SqT.of ha, atI_nat rfl, rfl, false, ?_, ?_⟩
      · show V.bl (decide (V.str z0 = V.str "if")) = V.bl false
        rw [decide_eq_false (fun e => hz (V.str.inj e))]
      refine ⟨_, rfl, (by show 1 ≤ sizeLine; decide), fun l2 nl2 => ?_⟩
      have s2 := same_new nl2 (.lst [V.ref a])
      obtain ⟨f1, f2⟩ := fin l2 [V.ref a] _ s2 upd_same (by rw [he0]; exact .cons (Dp.keep (Same.kpT s2) (mem_onlyTs (hdC_ot (pl := pl + done.length) ok' (by omega)) _ (by rw [he0]; exact List.mem_singleton.mpr rfl)) hd0) .nil)
      exact ⟨l, l2, _, _, rfl, rfl, s2 _ _ hl1, upd_same, f1, f2 _⟩
  · rintro σ H1 ⟨rs', done, us, y, z, rfl, hR', ok', hc', hd', hl1, hdp, s1⟩
    rw [List.drop_length] at hR'
    have z' := Rs.isN_nil ((isN_iff hR').mpr rfl)
    subst z'
    have e : done = rs.code pl := by rw [← hd']; exact (List.append_nil done).symm
    exact ⟨_, rfl, q l us H1 s1 hl hl1 (e ▸ hdp)⟩
theorem ok_ifCode {n k : Nat} {f i : Addr} {fd idd : FuncData} (F : Fun K "if_code" "if_code" sIfCode f fd) (RCs : 1 ≤ n → FnOk P w K mg base CX0 k i idd ["rows", "place"] (spRowsCode K (n - 1))) (mR : mg "rows_code" = some (.ref i)) (kR : PySem.W.keepIn K (.ref i) = true) (bR : Binds K idd ["rows", "place"] []) (T : Bi mg) :
    FnOk P w K mg base CX0 (k + 1) f fd ["row", "place"] (spIfCode K n) := by
  refine F.ok scIfCode (fun vs H Q E h => ?_) (fun cdv A outer s H vs Q E hr h => ?_)
  · obtain ⟨v, rs, r, pl, rfl, _⟩ := h
    rfl
  obtain ⟨v, rs, r, pl, rfl, hR, hok, hif, hc, hpl, q⟩ := h
  cases rs with
  | iff e A' B t =>
    have hn : 1 ≤ n := hok.1
    have RC : Fk P w K mg base k "rows_code" i idd ["rows", "place"] (spRowsCode K (n - 1)) := ⟨RCs hn, mR, kR, bR⟩
    refine ⟨_, (pss_cons (ps_asg (pv 0) (pg_tup rfl (pgs_cons (pg_name (i := 2) scIfCode.nd rfl (.inl rfl)) (pgs_cons (pg_name (i := 3) scIfCode.nd rfl (.inl rfl)) (pgs_cons (pg_name (i := 4) scIfCode.nd rfl (.inl rfl)) (pgs_cons (pg_name (i := 5) scIfCode.nd rfl (.inl rfl)) pgs_nil))))))
    (pss_cons (ps_set (i := 6) scIfCode.nd rfl (Or.inl rfl) (pe_call RC.G hr (by rfl) RC.m RC.k RC.b .nil pass0 (pa_cons (pv 4) (pa_cons (pe_op op_add (pv 1) pe_int) pa_nil))))
    (pss_cons (ps_set (i := 7) scIfCode.nd rfl (Or.inl rfl) (pe_op op_add (pe_op op_add (pv 1) pe_int) (pe_callB call_len_seq (by rfl) T.len (by decide +kernel) (pa_cons (pv 6) pa_nil))))
    (pss_cons (ps_if (pt_not (pt_truth (pv 5) (fun _ => rfl)))
      (pss_one (ps_ret (pe_op op_cat (pe_lst (pa_cons (pe_tup (pa_cons (pv 2) (pa_cons (pv 3) (pa_cons (pv 7) pa_nil)))) pa_nil)) (pv 6))))
      pss_nil)
    (pss_cons (ps_aug (i := 7) scIfCode.nd rfl (Or.inl rfl) pe_int ip_add)
    (pss_cons (ps_set (i := 8) scIfCode.nd rfl (Or.inl rfl) (pe_call RC.G hr (by rfl) RC.m RC.k RC.b .nil pass0 (pa_cons (pv 5) (pa_cons (pv 7) pa_nil))))
    (pss_one (ps_ret (pe_op op_cat (pe_op op_cat (pe_op op_cat (pe_lst (pa_cons (pe_tup (pa_cons (pv 2) (pa_cons (pv 3) (pa_cons (pv 7) pa_nil)))) pa_nil)) (pv 6)) (pe_lst (pa_cons (pe_tup (pa_cons pe_str (pa_cons (pe_op op_add (pv 7) (pe_callB call_len_seq (by rfl) T.len (by decide +kernel) (pa_cons (pv 8) pa_nil))) pa_nil))) pa_nil))) (pv 8)))))))))), ?_⟩
    have hs : sizeLine = 16777216 := by decide
    obtain ⟨a, u, p, xs, p', ys, r', e1, ha, te, hp, hA, hp', hB, _⟩ := hR
    cases e1
    have ec : (Rs.iff e A' B t).count = 1 + A'.count + B.count + t.count := rfl
    have lA := A'.code_len (pl + 1)
    have lB := B.code_len (pl + 2 + (A'.code (pl + 1)).length)
    have ed : (pl : Int) + 1 = ((pl + 1 : Nat) : Int) := by omega
    refine ⟨_, rfl, a, _, rfl, SqT.of ha, rfl, _, _, rfl, _, _, rfl, _, _, rfl, _, _, rfl, rfl, ?_⟩
    refine ⟨_, rfl, _, rfl, _, _, rfl, rfl, p, xs, A', pl + 1, (by show [V.ref p, V.int ((pl : Int) + 1)] = _; rw [ed]), hp, hA, hok.2.2.1, by omega, by omega, fun l1 us1 H1 s1 nl1 h1 d1 => ?_⟩
    have ul := DpAll.len d1
    refine ⟨_, rfl, _, _, rfl, rfl, _, rfl, l1, us1, rfl, .inl (SqL.of h1), _, _, rfl, rfl, ?_⟩
    refine ⟨_, rfl, !ys.isEmpty, .inr (.inl ⟨ys, SqT.of (s1 _ _ hp'), rfl⟩), ?_⟩
    have ni := isN_iff hB
    cases hy : ys with
    | nil =>
      have bn : B.isN = true := ni.mpr hy
      refine ⟨_, rfl, _, rfl, _, rfl, (by show 3 ≤ sizeLine; decide), fun p1 np1 => ⟨(by show 1 ≤ sizeLine; decide), fun p2 np2 => ?_⟩⟩
      have en : (pl : Int) + 1 + ((us1.length : Nat) : Int) = ((pl + 1 + (A'.code (pl + 1)).length : Nat) : Int) := by rw [ul]; omega
      have t1 := same_new np1 (.tup [V.str "if", u, .int ((pl : Int) + 1 + ((us1.length : Nat) : Int))])
      have t2 := same_new np2 (.lst [V.ref p1])
      have hp1 := t2 _ _ (upd_same (H := H1) (a := p1) (o := .tup [V.str "if", u, .int ((pl : Int) + 1 + ((us1.length : Nat) : Int))]))
      have h2 := upd_same (H := upd H1 p1 (.tup [V.str "if", u, .int ((pl : Int) + 1 + ((us1.length : Nat) : Int))])) (a := p2) (o := .lst [V.ref p1])
      have s2 := t1.trans t2
      generalize upd (upd H1 p1 (.tup [V.str "if", u, .int ((pl : Int) + 1 + ((us1.length : Nat) : Int))])) p2 (.lst [V.ref p1]) = H2 at hp1 h2 s2
      refine ⟨_, rfl, p2, l1, _, us1, rfl, rfl, h2, s2 _ _ h1, by show 1 + _ ≤ _; omega, fun l nl => ?_⟩
      have t4 := same_new nl (.lst ([V.ref p1] ++ us1))
      have k4 := Same.kpT (K := K) (s2.trans t4)
      refine q l _ _ ((s1.trans s2).trans t4) ((s1.trans s2).free nl) upd_same ?_
      rw [en] at hp1
      show DpAll K _ _ (ifC e (A'.code (pl + 1)) B.isN (B.code (pl + 2 + (A'.code (pl + 1)).length)) pl)
      unfold ifC
      rw [bn, if_pos rfl]
      exact .cons (.tup (SqT.of (t4 _ _ hp1)) (dp3 (.str _) (Ex.dp (te.same ((s1.trans s2).trans t4))) (.int _))) (DpAll.keep k4 (code_ot hok.2.2.1 (by omega)) d1)
    | cons y0 ys0 =>
      have bn : B.isN = false := by
        cases z : B.isN with
        | false => rfl
        | true => rw [ni.mp z] at hy; cases hy
      have en : (pl : Int) + 1 + ((us1.length : Nat) : Int) + 1 = ((pl + 2 + (A'.code (pl + 1)).length : Nat) : Int) := by rw [ul]; omega
      refine ⟨_, rfl, _, _, rfl, rfl, ?_⟩
      refine ⟨_, rfl, _, rfl, p', ys, B, pl + 2 + (A'.code (pl + 1)).length, (by show [V.ref p', V.int ((pl : Int) + 1 + ((us1.length : Nat) : Int) + 1)] = _; rw [en]), s1 _ _ hp', hB.same s1, hok.2.2.2.1, by omega, by omega, fun l3 us3 H3 s3 nl3 h3 d3 => ?_⟩
      have ul3 := DpAll.len d3
      have ej : (pl : Int) + 1 + ((us1.length : Nat) : Int) + 1 + ((us3.length : Nat) : Int) = ((pl + 2 + (A'.code (pl + 1)).length + (B.code (pl + 2 + (A'.code (pl + 1)).length)).length : Nat) : Int) := by rw [ul, ul3]; omega
      refine ⟨_, rfl, _, rfl, _, rfl, (by show 3 ≤ sizeLine; decide), fun p1 np1 => ⟨(by show 1 ≤ sizeLine; decide), fun p2 np2 => ?_⟩⟩
      have t1 := same_new np1 (.tup [V.str "if", u, .int ((pl : Int) + 1 + ((us1.length : Nat) : Int) + 1)])
      have t2 := same_new np2 (.lst [V.ref p1])
      have hp1 := t2 _ _ (upd_same (H := H3) (a := p1) (o := .tup [V.str "if", u, .int ((pl : Int) + 1 + ((us1.length : Nat) : Int) + 1)]))
      have h2 := upd_same (H := upd H3 p1 (.tup [V.str "if", u, .int ((pl : Int) + 1 + ((us1.length : Nat) : Int) + 1)])) (a := p2) (o := .lst [V.ref p1])
      have s4 := t1.trans t2
      generalize upd (upd H3 p1 (.tup [V.str "if", u, .int ((pl : Int) + 1 + ((us1.length : Nat) : Int) + 1)])) p2 (.lst [V.ref p1]) = H4 at hp1 h2 s4
      rw [en] at hp1
      refine ⟨_, rfl, p2, l1, _, us1, rfl, rfl, h2, s4 _ _ (s3 _ _ h1), by show 1 + _ ≤ _; omega, fun l5 nl5 => ?_⟩
      have s5 := same_new nl5 (.lst ([V.ref p1] ++ us1))
      have h5 := upd_same (H := H4) (a := l5) (o := .lst ([V.ref p1] ++ us1))
      have hp5 := s5 _ _ hp1
      generalize upd H4 l5 (.lst ([V.ref p1] ++ us1)) = H5 at s5 h5 hp5
      have s15 := s3.trans (s4.trans s5)
      refine ⟨_, rfl, _, rfl, l3, us3, rfl, .inl (SqL.of (s5 _ _ (s4 _ _ h3))), _, _, rfl, rfl, (by show 2 ≤ sizeLine; decide), fun p6 np6 => ⟨(by show 1 ≤ sizeLine; decide), fun p7 np7 => ?_⟩⟩
      have t6 := same_new np6 (.tup [V.str "jump", .int ((pl : Int) + 1 + ((us1.length : Nat) : Int) + 1 + ((us3.length : Nat) : Int))])
      have t7 := same_new np7 (.lst [V.ref p6])
      have hp6 := t7 _ _ (upd_same (H := H5) (a := p6) (o := .tup [V.str "jump", .int ((pl : Int) + 1 + ((us1.length : Nat) : Int) + 1 + ((us3.length : Nat) : Int))]))
      have h7 := upd_same (H := upd H5 p6 (.tup [V.str "jump", .int ((pl : Int) + 1 + ((us1.length : Nat) : Int) + 1 + ((us3.length : Nat) : Int))])) (a := p7) (o := .lst [V.ref p6])
      have s7 := t6.trans t7
      generalize upd (upd H5 p6 (.tup [V.str "jump", .int ((pl : Int) + 1 + ((us1.length : Nat) : Int) + 1 + ((us3.length : Nat) : Int))])) p7 (.lst [V.ref p6]) = H7 at hp6 h7 s7
      rw [ej] at hp6
      refine ⟨l5, p7, _, _, rfl, rfl, s7 _ _ h5, h7, by rw [List.length_append]; show 1 + _ + 1 ≤ _; omega, fun l8 nl8 => ?_⟩
      have s8 := same_new nl8 (.lst (([V.ref p1] ++ us1) ++ [V.ref p6]))
      have h8 := upd_same (H := H7) (a := l8) (o := .lst (([V.ref p1] ++ us1) ++ [V.ref p6]))
      generalize upd H7 l8 (.lst (([V.ref p1] ++ us1) ++ [V.ref p6])) = H8 at s8 h8
      have s58 := s5.trans (s7.trans s8)
      refine ⟨_, rfl, l8, l3, _, _, rfl, rfl, h8, s58 _ _ (s4 _ _ h3), by rw [List.length_append, List.length_append]; show 1 + _ + 1 + _ ≤ _; omega, fun l nl => ?_⟩
      have s9 := same_new nl (.lst ((([V.ref p1] ++ us1) ++ [V.ref p6]) ++ us3))
      have sAll := s58.trans s9
      refine q l _ _ (s1.trans (s3.trans (s4.trans sAll))) ((s1.trans (s3.trans (s4.trans s58))).free nl) upd_same ?_
      show DpAll K _ _ (ifC e (A'.code (pl + 1)) B.isN (B.code (pl + 2 + (A'.code (pl + 1)).length)) pl)
      unfold ifC
      generalize upd H8 l (.lst ((([V.ref p1] ++ us1) ++ [V.ref p6]) ++ us3)) = H9 at s9 sAll
      rw [bn, if_neg Bool.false_ne_true, List.append_assoc, List.append_assoc]
      have k1 := Same.kpT (K := K) (s3.trans (s4.trans sAll))
      have k3 := Same.kpT (K := K) (s4.trans sAll)
      show DpAll K H9 (V.ref p1 :: (us1 ++ (V.ref p6 :: us3))) _
      refine .cons (.tup (SqT.of (sAll _ _ hp1)) (dp3 (.str _) (Ex.dp (te.same (s1.trans (s3.trans (s4.trans sAll))))) (.int _))) ?_
      exact DpAll.app (DpAll.keep k1 (code_ot hok.2.2.1 (by omega)) d1) (.cons (.tup (SqT.of (s9 _ _ (s8 _ _ hp6))) (dp2 (.str _) (.int _))) (DpAll.keep k3 (code_ot hok.2.2.2.1 (by omega)) d3))
  | nil => cases hR
  | _ => cases hif
theorem codesAll {fr fi : Addr} {dr di : FuncData} (FR : Fun K "rows_code" "rows_code" sRowsCode fr dr) (mR : mg "rows_code" = some (.ref fr)) (bR : Binds K dr ["rows", "place"] []) (FI : Fun K "if_code" "if_code" sIfCode fi di) (mI : mg "if_code" = some (.ref fi)) (bI : Binds K di ["row", "place"] []) (T : Bi mg) :
    ∀ n : Nat, FnOk P w K mg base CX0 (2 + 2 * n) fr dr ["rows", "place"] (spRowsCode K n)
  | 0 => ok_rowsCode (n := 0) (k := 1) FR ⟨ok_ifCode (n := 0) (k := 0) FI (fun h => absurd h (by decide)) mR FR.kp bR T, mI, FI.kp, bI⟩ T
  | n + 1 => ok_rowsCode (n := n + 1) (k := 2 + 2 * n + 1) FR ⟨ok_ifCode (n := n + 1) (k := 2 + 2 * n) FI (fun _ => codesAll FR mR bR FI mI bI T n) mR FR.kp bR T, mI, FI.kp, bI⟩ T
theorem ok_codeOf {f i : Addr} {fd idd : FuncData} (F : Fun K "code_of" "code_of" sCodeOf f fd) (RC : Fk P w K mg base 8 "rows_code" i idd ["rows", "place"] (spRowsCode K 3)) : FnOk P w K mg base CX0 9 f fd ["work"] (spCodeOf K) := by
  refine F.ok scCodeOf (fun vs H Q E h => ?_) (fun cdv A outer s H vs Q E hr h => ?_)
  · obtain ⟨v, W, n, _, rfl, _⟩ := h
    rfl
  obtain ⟨v, W, n, hn, rfl, ⟨a, pn, pr, xs, rfl, ha, hpn, hpr, hR⟩, hok, hc, q⟩ := h
  refine ⟨_, (pss_one (ps_ret (pe_op op_cat (pe_call RC.G hr (by rfl) RC.m RC.k RC.b .nil pass0 (pa_cons (pe_ix ix_tup (pv 0) pe_int (fun _ _ => rfl)) (pa_cons pe_int pa_nil))) (pe_lst (pa_cons (pe_tup (pa_cons pe_str (pa_cons (pe_tup (pa_cons pe_str (pa_cons pe_int pa_nil))) pa_nil))) pa_nil))))), ?_⟩
  have hs : sizeLine = 16777216 := by decide
  have lA := W.rows.code_len 0
  refine ⟨_, rfl, a, _, 4, _, rfl, rfl, SqT.of ha, atI_nat (j := 4) rfl, pr, xs, W.rows, 0, rfl, hpr, hR, Rs.ok_up hn hok, hc, by omega, fun l1 us1 H1 s1 nl1 h1 d1 => ?_⟩
  refine ⟨(by show 2 ≤ sizeLine; decide), fun p1 np1 => ⟨(by show 2 ≤ sizeLine; decide), fun p2 np2 => ⟨(by show 1 ≤ sizeLine; decide), fun p3 np3 => ?_⟩⟩⟩
  have t1 := same_new np1 (.tup [V.str "number", .int 0])
  have t2 := same_new np2 (.tup [V.str "give", .ref p1])
  have t3 := same_new np3 (.lst [V.ref p2])
  have hp1 := t3 _ _ (t2 _ _ (upd_same (H := H1) (a := p1) (o := .tup [V.str "number", .int 0])))
  have hp2 := t3 _ _ (upd_same (H := upd H1 p1 (.tup [V.str "number", .int 0])) (a := p2) (o := .tup [V.str "give", .ref p1]))
  have h3 := upd_same (H := upd (upd H1 p1 (.tup [V.str "number", .int 0])) p2 (.tup [V.str "give", .ref p1])) (a := p3) (o := .lst [V.ref p2])
  have s3 := t1.trans (t2.trans t3)
  generalize upd (upd (upd H1 p1 (.tup [V.str "number", .int 0])) p2 (.tup [V.str "give", .ref p1])) p3 (.lst [V.ref p2]) = H3 at hp1 hp2 h3 s3
  have ul := DpAll.len d1
  refine ⟨l1, p3, us1, [V.ref p2], rfl, rfl, s3 _ _ h1, h3, by show _ + 1 ≤ _; omega, fun l nl => ?_⟩
  have t4 := same_new nl (.lst (us1 ++ [V.ref p2]))
  have k4 := Same.kpT (K := K) (s3.trans t4)
  refine q l _ _ ((s1.trans s3).trans t4) ((s1.trans s3).free nl) upd_same ?_
  exact DpAll.app (DpAll.keep k4 (code_ot hok (by omega)) d1) (.cons (.tup (SqT.of (t4 _ _ hp2)) (dp2 (.str _) (.tup (SqT.of (t4 _ _ hp1)) (dp2 (.str _) (.int _))))) .nil)
end
end SH

set_option Elab.async false
set_option linter.all false
set_option maxRecDepth 100000
namespace SH
open PySem L2
abbrev sLcode : Stmt := topS 14
abbrev sLifs : Stmt := topS 15
theorem scLcode : FnScope ["_law_rows_here", "_law_at", "_law_found", "_law_row_here", "_law_here", "_law_firsts", "_law_seconds", "_law_jumps"] ["_law_rows_here", "_law_at"] (defScope sLcode) := ⟨rfl, rfl, rfl, by decide +kernel, rfl, by decide +kernel, by decide +kernel⟩
theorem scLifs : FnScope ["_law_bag_here", "_law_deep", "_law_row_here", "_law_one"] ["_law_bag_here", "_law_deep"] (defScope sLifs) := ⟨rfl, rfl, rfl, by decide +kernel, rfl, by decide +kernel, by decide +kernel⟩
section
variable {P : Program} {w : World} {K : PySem.W.Frag} {mg : Str → Option Value} {base : Heap}
theorem ok_lcode {n k : Nat} {f : Addr} {fd : FuncData} (n10 : n ≤ 10) (F : Fun K "_law_code" "_law_code" sLcode f fd) (CDs : 1 ≤ n → FnOk P w K mg base CX0 k f fd ["_law_rows_here", "_law_at"] (spRowsCode K (n - 1))) (mC : mg "_law_code" = some (.ref f)) (bC : Binds K fd ["_law_rows_here", "_law_at"] []) (T : Bi mg) :
    FnOk P w K mg base CX0 (k + 1) f fd ["_law_rows_here", "_law_at"] (spRowsCode K n) := by
  refine F.ok scLcode (fun vs H Q E h => ?_) (fun cdv A outer s H vs Q E hr h => ?_)
  · obtain ⟨p, xs, rs, pl, rfl, _⟩ := h
    rfl
  obtain ⟨p, xs, rs, pl, rfl, hp, hR, hok, hc, hpl, q⟩ := h
  have BG : ∃ sp, FnOk P w K mg base CX0 k f fd ["_law_rows_here", "_law_at"] sp ∧ (1 ≤ n → sp = spRowsCode K (n - 1)) := by
    by_cases h1 : 1 ≤ n
    · exact ⟨_, CDs h1, fun _ => rfl⟩
    · refine ⟨fun _ _ _ _ => False, ⟨fun _ _ _ _ h => h.elim, fun _ _ _ _ _ _ _ _ _ _ _ _ _ h => h.elim⟩, fun z => absurd z h1⟩
  obtain ⟨spB, GB, eB⟩ := BG
  have CD : Fk P w K mg base k "_law_code" f fd ["_law_rows_here", "_law_at"] spB := ⟨GB, mC, F.kp, bC⟩
  refine ⟨_, (pss_cons (ps_set (i := 2) scLcode.nd rfl (Or.inl rfl) (pe_lst pa_nil))
    (pss_cons (ps_for PassesOwn.never rfl (pi_tup (pv 0)) (pg_name (i := 3) scLcode.nd rfl (.inl rfl))
      (pss_one (ps_if (pt_cmpR op_ne (pe_ix ix_tup (pv 3) pe_int (fun _ _ => rfl)) pe_str (nomark _))
      (pss_one (ps_expr (pe_bm PySem.F.plainAttrs_list PySem.F.slot_list_append PySem.F.type_list_append mt_append (pv 2) (pa_cons (pv 3) pa_nil))))
      (pss_cons (ps_set (i := 4) scLcode.nd rfl (Or.inl rfl) (pe_op op_add (pv 1) (pe_callB call_len_seq (by rfl) T.len (by decide +kernel) (pa_cons (pv 2) pa_nil))))
    (pss_cons (ps_set (i := 5) scLcode.nd rfl (Or.inl rfl) (pe_call CD.G hr (by rfl) CD.m CD.k CD.b .nil pass0 (pa_cons (pe_ix ix_tup (pv 3) pe_int (fun _ _ => rfl)) (pa_cons (pe_op op_add (pv 4) pe_int) pa_nil))))
    (pss_cons (ps_set (i := 6) scLcode.nd rfl (Or.inl rfl) (pe_call CD.G hr (by rfl) CD.m CD.k CD.b .nil pass0 (pa_cons (pe_ix ix_tup (pv 3) pe_int (fun _ _ => rfl)) (pa_cons (pe_op op_add (pe_op op_add (pv 4) (pe_callB call_len_seq (by rfl) T.len (by decide +kernel) (pa_cons (pv 5) pa_nil))) pe_int) pa_nil))))
    (pss_cons (ps_set (i := 7) scLcode.nd rfl (Or.inl rfl) (pe_op op_rep (pe_lst (pa_cons (pe_tup (pa_cons pe_str (pa_cons (pe_op op_add (pe_op op_add (pe_op op_add (pv 4) (pe_callB call_len_seq (by rfl) T.len (by decide +kernel) (pa_cons (pv 5) pa_nil))) pe_int) (pe_callB call_len_seq (by rfl) T.len (by decide +kernel) (pa_cons (pv 6) pa_nil))) pa_nil))) pa_nil)) (pe_callTy call_int1 (by rfl) T.int (by decide +kernel) (pa_cons (pe_cmpR (op_neD hr.units) (pe_ix ix_tup (pv 3) pe_int (fun _ _ => rfl)) (pe_tup pa_nil) (nomark _)) pa_nil))))
    (pss_cons (ps_expr (pe_bm PySem.F.plainAttrs_list PySem.F.slot_list_append PySem.F.type_list_append mt_append (pv 2) (pa_cons (pe_tup (pa_cons pe_str (pa_cons (pe_ix ix_tup (pv 3) pe_int (fun _ _ => rfl)) (pa_cons (pe_op op_add (pe_op op_add (pe_op op_add (pv 4) pe_int) (pe_callB call_len_seq (by rfl) T.len (by decide +kernel) (pa_cons (pv 5) pa_nil))) (pe_callB call_len_seq (by rfl) T.len (by decide +kernel) (pa_cons (pv 7) pa_nil))) pa_nil)))) pa_nil)))
    (pss_one (ps_set (i := 2) scLcode.nd rfl (Or.inl rfl) (pe_op op_cat (pe_op op_cat (pe_op op_cat (pv 2) (pv 5)) (pv 7)) (pe_op op_rep (pv 6) (pe_callTy call_int1 (by rfl) T.int (by decide +kernel) (pa_cons (pe_cmpR (op_neD hr.units) (pe_ix ix_tup (pv 3) pe_int (fun _ _ => rfl)) (pe_tup pa_nil) (nomark _)) pa_nil))))))))))))))
    (pss_one (ps_ret (pv 2))))), ?_⟩
  have hs : sizeLine = 16777216 := by decide
  refine ⟨Nat.zero_le _, fun l0 hl0 => ?_⟩
  refine ⟨_, rfl, p, rfl, ⟨_, SqT.of ((same_new hl0 _) _ _ hp)⟩, ?_⟩
  refine for_tup (K := K) (a := p) (xs := xs) (fun i σ H' => ∃ (rs' : Rs) (done : List PyData) (l : Addr) (us : List V) (y z1 z2 z3 z4 : Option V), σ = [some (.ref p), some (.int pl), some (.ref l), y, z1, z2, z3, z4] ∧ RsIn H' rs' (xs.drop i) ∧ Rs.ok n rs' ∧ done.length + 2 * rs'.count ≤ 2 * rs.count ∧ done ++ rs'.code (pl + done.length) = rs.code pl ∧ H l = none ∧ H' l = some (.lst us) ∧ DpAll K H' us done ∧ Same H H') ?_ ?_ ?_ ?_
  · exact ⟨rs, [], l0, [], none, none, none, none, none, rfl, hR.same (same_new hl0 _), hok, by show 0 + _ ≤ _; omega, rfl, hl0, upd_same, .nil, same_new hl0 _⟩
  · rintro i σ H' _ ⟨_, _, _, _, _, _, _, _, _, _, _, _, _, _, _, _, _, s'⟩
    exact SqT.of (s' _ _ hp)
  · rintro i v σ H1 hv ⟨rs', done, l, us, y, z1, z2, z3, z4, rfl, hR', ok', hc', hd', hl, hl1, hdp, s1⟩
    have hdr : xs.drop i = v :: xs.drop (i + 1) := by
      obtain ⟨hi, e⟩ := List.getElem?_eq_some_iff.mp hv
      rw [List.drop_eq_getElem_cons hi, e]
    rw [hdr] at hR'
    have ce := rs'.count_eq
    have hh := rs'.hdC_len (pl + done.length)
    have ul := DpAll.len hdp
    have hot := code_ot hok hpl
    have dot : onlyTs done = true := onlyTs_mem fun d hd => mem_onlyTs hot d (by rw [← hd']; exact List.mem_append_left _ hd)
    have e1 : rs'.code (pl + done.length) = rs'.hdC (pl + done.length) ++ rs'.tl.code (pl + done.length + (rs'.hdC (pl + done.length)).length) := Rs.code_eq _ _
    have hdd : onlyTs (rs'.hdC (pl + done.length)) = true := hdC_ot ok' (by omega)
    cases ki : rs'.isIf with
    | false =>
      obtain ⟨a, z0, us0, d0, rfl, ha, hz, hd0, he0⟩ := plain_row (K := K) hR' ki
      refine ⟨_, rfl, a, _, 0, _, rfl, rfl, SqT.of ha, atI_nat rfl, rfl, true, ?_, ?_⟩
      · show V.bl (!decide (V.str z0 = V.str "if")) = V.bl true
        rw [decide_eq_false (fun e => hz (V.str.inj e))]
        rfl
      refine ⟨_, rfl, .inl ⟨rfl, _, SqL.of hl1⟩, _, rfl, l, _, _, rfl, rfl, hl1, by omega, ?_⟩
      have kt : KpT K H1 (upd H1 l (.lst (us ++ [V.ref a]))) := KpT.lst hl1
      refine ⟨rs'.tl, done ++ rs'.hdC (pl + done.length), l, us ++ [V.ref a], _, _, _, _, _, rfl, RsIn.upd_lst hl1 hR'.tl, Rs.ok_tl ok', ?_, ?_, hl, upd_same, ?_, ?_⟩
      · rw [List.length_append]; omega
      · rw [List.length_append, List.append_assoc, ← Nat.add_assoc, ← e1]; exact hd'
      · rw [he0] at hdd ⊢
        exact DpAll.app (DpAll.keep kt dot hdp) (DpAll.keep kt hdd (.cons hd0 .nil))
      · intro x o z
        rw [upd_ne (ne_of_none z hl)]
        exact s1 _ _ z
    | true =>
      cases rs' with
      | iff e A' B t =>
        obtain ⟨a, u, pA, xA, pB, xB, r', e2, ha, te, hpA, hA, hpB, hB, hR2⟩ := hR'
        cases e2
        have hn : 1 ≤ n := ok'.1
        refine ⟨_, rfl, a, _, 0, _, rfl, rfl, SqT.of ha, atI_nat rfl, rfl, false, (by decide +kernel), ?_⟩
        obtain rfl : spB = spRowsCode K (n - 1) := eB hn
        have ec : (Rs.iff e A' B t).count = 1 + A'.count + B.count + t.count := rfl
        have lA := A'.code_len (pl + done.length + 1)
        have lB := B.code_len (pl + done.length + 2 + (A'.code (pl + done.length + 1)).length)
        have eh : ((pl : Int) + ((us.length : Nat) : Int)) + 1 = ((pl + done.length + 1 : Nat) : Int) := by rw [ul]; omega
        refine ⟨_, rfl, _, rfl, l, us, rfl, .inl (SqL.of hl1), _, _, rfl, rfl, ?_⟩
        refine ⟨_, rfl, a, _, 2, _, rfl, rfl, SqT.of ha, atI_nat (j := 2) rfl, _, rfl, _, _, rfl, rfl, pA, xA, A', pl + done.length + 1, (by show [V.ref pA, V.int (((pl : Int) + ((us.length : Nat) : Int)) + 1)] = _; rw [eh]), hpA, hA, ok'.2.2.1, by omega, by omega, fun l2 us2 H2 s2 nl2 h2 d2 => ?_⟩
        have ul2 := DpAll.len d2
        have e3 : ((pl : Int) + ((us.length : Nat) : Int)) + ((us2.length : Nat) : Int) + 2 = ((pl + done.length + 2 + (A'.code (pl + done.length + 1)).length : Nat) : Int) := by rw [ul, ul2]; omega
        refine ⟨_, rfl, a, _, 3, _, rfl, rfl, SqT.of (s2 _ _ ha), atI_nat (j := 3) rfl, _, rfl, _, rfl, l2, us2, rfl, .inl (SqL.of h2), _, _, rfl, rfl, _, _, rfl, rfl, pB, xB, B, pl + done.length + 2 + (A'.code (pl + done.length + 1)).length, (by show [V.ref pB, V.int (((pl : Int) + ((us.length : Nat) : Int)) + ((us2.length : Nat) : Int) + 2)] = _; rw [e3]), s2 _ _ hpB, hB.same s2, ok'.2.2.2.1, by omega, by omega, fun l3 us3 H3 s3 nl3 h3 d3 => ?_⟩
        have ul3 := DpAll.len d3
        have ej : ((pl : Int) + ((us.length : Nat) : Int)) + ((us2.length : Nat) : Int) + 2 + ((us3.length : Nat) : Int) = ((pl + done.length + 2 + (A'.code (pl + done.length + 1)).length + (B.code (pl + done.length + 2 + (A'.code (pl + done.length + 1)).length)).length : Nat) : Int) := by rw [ul, ul2, ul3]; omega
        have neB : PyData.eqv (.tuple B.dat) (.tuple []) = B.isN := by
          rw [PyData.eqv]
          cases B <;> (unfold Rs.dat; rw [PyData.eqvAll]; rfl)
        have shB : SeqAt.shaped (.tuple B.dat) = true := shaped_of (n := 8 + 2 * n + 1) (fit_tup fun d hd => (Rs.fit B ok'.2.2.2.1 d hd).up (by omega)) (by omega)
        -- the jump
        refine ⟨_, rfl, _, rfl, l2, us2, rfl, .inl (SqL.of (s3 _ _ h2)), _, _, rfl, rfl, _, _, rfl, rfl, _, rfl, l3, us3, rfl, .inl (SqL.of h3), _, _, rfl, rfl, (by show 2 ≤ sizeLine; decide), fun p4 np4 => ⟨(by show 1 ≤ sizeLine; decide), fun l5 nl5 => ?_⟩⟩
        have s4 := same_new np4 (.tup [V.str "jump", .int (((pl : Int) + ((us.length : Nat) : Int)) + ((us2.length : Nat) : Int) + 2 + ((us3.length : Nat) : Int))])
        have h4 := upd_same (H := H3) (a := p4) (o := .tup [V.str "jump", .int (((pl : Int) + ((us.length : Nat) : Int)) + ((us2.length : Nat) : Int) + 2 + ((us3.length : Nat) : Int))])
        generalize upd H3 p4 (.tup [V.str "jump", .int (((pl : Int) + ((us.length : Nat) : Int)) + ((us2.length : Nat) : Int) + 2 + ((us3.length : Nat) : Int))]) = H4 at s4 h4 nl5
        rw [ej] at h4
        have s5 := same_new nl5 (.lst [V.ref p4])
        have h5 := upd_same (H := H4) (a := l5) (o := .lst [V.ref p4])
        generalize upd H4 l5 (.lst [V.ref p4]) = H5 at s5 h5
        have s25 := s3.trans (s4.trans s5)
        refine ⟨_, rfl, a, _, 3, _, rfl, rfl, SqT.of (s25 _ _ (s2 _ _ ha)), atI_nat (j := 3) rfl, Nat.zero_le _, fun p6 np6 => ?_⟩
        have s6 := same_new np6 (.tup [])
        have s26 := s25.trans s6
        refine ⟨.tuple B.dat, .tuple [], .tup (SqT.of (s26 _ _ (s2 _ _ hpB))) (Rs.dp ((hB.same s2).same s26)), .tup (SqT.of upd_same) .nil, shB, rfl, .inr ⟨_, rfl, ?_⟩⟩
        rw [neB]
        generalize upd H5 p6 (.tup []) = H6 at s6 s26
        refine ⟨l5, _, _, rfl, rfl, s6 _ _ h5, ?_, ?_, ?_, fun l7 nl7 => ?_⟩
        · cases B.isN <;> decide
        · cases B.isN <;> decide
        · cases B.isN
          · show 1 * 1 ≤ sizeLine; decide
          · show 1 * 0 ≤ sizeLine; decide
        obtain ⟨jl, ejl⟩ : ∃ jl : List V, jl = if B.isN = true then [] else [V.ref p4] := ⟨_, rfl⟩
        have ejl' : (List.replicate (if (!B.isN) = true then (1 : Int) else 0).toNat [V.ref p4]).flatten = jl := by rw [ejl]; cases B.isN <;> rfl
        rw [ejl']
        have ljl : jl.length ≤ 1 := by rw [ejl]; cases B.isN <;> first | exact Nat.le_refl 1 | exact Nat.zero_le 1
        have s7 := same_new nl7 (.lst jl)
        have h7 := upd_same (H := H6) (a := l7) (o := .lst jl)
        generalize upd H6 l7 (.lst jl) = H7 at s7 h7
        have s27 := s26.trans s7
        -- the if
        refine ⟨_, rfl, .inl ⟨rfl, _, SqL.of (s27 _ _ (s2 _ _ hl1))⟩, ?_⟩
        refine ⟨_, rfl, a, _, 1, _, rfl, rfl, SqT.of (s27 _ _ (s2 _ _ ha)), atI_nat (j := 1) rfl, _, rfl, _, _, rfl, rfl, _, rfl, l2, us2, rfl, .inl (SqL.of (s27 _ _ h2)), _, _, rfl, rfl, _, rfl, l7, jl, rfl, .inl (SqL.of h7), _, _, rfl, rfl, (by show 3 ≤ sizeLine; decide), fun p8 np8 => ?_⟩
        have s8 := same_new np8 (.tup [V.str "if", u, .int (((pl : Int) + ((us.length : Nat) : Int)) + 1 + ((us2.length : Nat) : Int) + ((jl.length : Nat) : Int))])
        have h8 := upd_same (H := H7) (a := p8) (o := .tup [V.str "if", u, .int (((pl : Int) + ((us.length : Nat) : Int)) + 1 + ((us2.length : Nat) : Int) + ((jl.length : Nat) : Int))])
        generalize upd H7 p8 (.tup [V.str "if", u, .int (((pl : Int) + ((us.length : Nat) : Int)) + 1 + ((us2.length : Nat) : Int) + ((jl.length : Nat) : Int))]) = H8 at s8 h8
        have s28 := s27.trans s8
        have hl8 := s28 _ _ (s2 _ _ hl1)
        refine ⟨l, us, _, rfl, rfl, hl8, by omega, ?_⟩
        have hl9 := upd_same (H := H8) (a := l) (o := .lst (us ++ [V.ref p8]))
        have n2 : l2 ≠ l := fun z => by rw [z, hl1] at nl2; cases nl2
        have n3 : l3 ≠ l := fun z => by rw [z, s2 _ _ hl1] at nl3; cases nl3
        have n7 : l7 ≠ l := fun z => by rw [z, s26 _ _ (s2 _ _ hl1)] at nl7; cases nl7
        have h29 : (upd H8 l (.lst (us ++ [V.ref p8]))) l2 = some (.lst us2) := by rw [upd_ne n2]; exact s28 _ _ h2
        have h39 : (upd H8 l (.lst (us ++ [V.ref p8]))) l3 = some (.lst us3) := by rw [upd_ne n3]; exact (s4.trans (s5.trans (s6.trans (s7.trans s8)))) _ _ h3
        have h79 : (upd H8 l (.lst (us ++ [V.ref p8]))) l7 = some (.lst jl) := by rw [upd_ne n7]; exact s8 _ _ h7
        have k9 : KpT K H8 (upd H8 l (.lst (us ++ [V.ref p8]))) := KpT.lst hl8
        have t9 : KeepT H8 (upd H8 l (.lst (us ++ [V.ref p8]))) := fun x xs z => tup_updl hl8 z
        have s09 : Same H (upd H8 l (.lst (us ++ [V.ref p8]))) := fun x o z => by
          rw [upd_ne (ne_of_none z hl)]
          exact s28 _ _ (s2 _ _ (s1 _ _ z))
        generalize upd H8 l (.lst (us ++ [V.ref p8])) = H9 at hl9 h29 h39 h79 k9 t9 s09
        -- all together
        refine ⟨_, rfl, _, rfl, l, l2, _, _, rfl, rfl, hl9, h29, by rw [List.length_append]; show _ + 1 + _ ≤ _; omega, fun la nla => ?_⟩
        have sa := same_new nla (.lst ((us ++ [V.ref p8]) ++ us2))
        have ha' := upd_same (H := H9) (a := la) (o := .lst ((us ++ [V.ref p8]) ++ us2))
        generalize upd H9 la (.lst ((us ++ [V.ref p8]) ++ us2)) = Ha at sa ha'
        refine ⟨_, rfl, la, l7, _, _, rfl, rfl, ha', sa _ _ h79, by rw [List.length_append, List.length_append]; show _ + 1 + _ + _ ≤ _; omega, fun lb nlb => ?_⟩
        have sb := same_new nlb (.lst (((us ++ [V.ref p8]) ++ us2) ++ jl))
        have hb := upd_same (H := Ha) (a := lb) (o := .lst (((us ++ [V.ref p8]) ++ us2) ++ jl))
        generalize upd Ha lb (.lst (((us ++ [V.ref p8]) ++ us2) ++ jl)) = Hb at sb hb
        have sab := sa.trans sb
        have a9 : H9 a = some (.tup [.str "if", u, .ref pA, .ref pB]) := t9 _ _ (s28 _ _ (s2 _ _ ha))
        have b9 : H9 pB = some (.tup xB) := t9 _ _ (s28 _ _ (s2 _ _ hpB))
        have B9 : RsIn H9 B xB := RsIn.keep t9 ((hB.same s2).same s28)
        refine ⟨_, rfl, _, rfl, a, _, 3, _, rfl, rfl, SqT.of (sab _ _ a9), atI_nat (j := 3) rfl, Nat.zero_le _, fun pc npc => ?_⟩
        have sc := same_new npc (.tup [])
        have sac := sab.trans sc
        refine ⟨.tuple B.dat, .tuple [], .tup (SqT.of (sac _ _ b9)) (Rs.dp (B9.same sac)), .tup (SqT.of upd_same) .nil, shB, rfl, .inr ⟨_, rfl, ?_⟩⟩
        rw [neB]
        generalize upd Hb pc (.tup []) = Hc at sc sac
        refine ⟨l3, _, us3, rfl, rfl, sac _ _ h39, ?_, ?_, ?_, fun ld nld => ?_⟩
        · cases B.isN <;> decide
        · cases B.isN <;> decide
        · have : us3.length ≤ sizeLine := by omega
          cases B.isN
          · show us3.length * 1 ≤ sizeLine; omega
          · show us3.length * 0 ≤ sizeLine; omega
        obtain ⟨bl, ebl⟩ : ∃ bl : List V, bl = if B.isN = true then [] else us3 := ⟨_, rfl⟩
        have ebl' : (List.replicate (if (!B.isN) = true then (1 : Int) else 0).toNat us3).flatten = bl := by
          rw [ebl]
          cases B.isN
          · show us3 ++ [] = us3
            exact List.append_nil _
          · rfl
        rw [ebl']
        have lbl : bl.length ≤ us3.length := by rw [ebl]; cases B.isN <;> first | exact Nat.le_refl _ | exact Nat.zero_le _
        have sd := same_new nld (.lst bl)
        have hd := upd_same (H := Hc) (a := ld) (o := .lst bl)
        generalize upd Hc ld (.lst bl) = Hd at sd hd
        refine ⟨lb, ld, _, _, rfl, rfl, (sc.trans sd) _ _ hb, hd, by rw [List.length_append, List.length_append, List.length_append]; show _ + 1 + _ + _ + _ ≤ _; omega, fun lf nlf => ?_⟩
        have sf := same_new nlf (.lst ((((us ++ [V.ref p8]) ++ us2) ++ jl) ++ bl))
        have hf := upd_same (H := Hd) (a := lf) (o := .lst ((((us ++ [V.ref p8]) ++ us2) ++ jl) ++ bl))
        have s9f := sac.trans (sd.trans sf)
        have nlf' : H lf = none := ((s09.trans sac).trans sd).free nlf
        generalize upd Hd lf (.lst ((((us ++ [V.ref p8]) ++ us2) ++ jl) ++ bl)) = Hf at sf hf s9f
        have tf : KeepT H8 Hf := t9.trans (.of s9f)
        have kf : KpT K H8 Hf := k9.trans (Same.kpT s9f)
        have k2f : KpT K H2 Hf := (Same.kpT s28).trans kf
        refine ⟨t, done ++ (Rs.iff e A' B t).hdC (pl + done.length), lf, _, _, _, _, _, _, rfl, RsIn.keep tf ((hR2.same s2).same s28), Rs.ok_tl ok', ?_, ?_, nlf', hf, ?_, s09.trans s9f⟩
        · rw [List.length_append]
          have : (Rs.iff e A' B t).tl.count = t.count := rfl
          omega
        · rw [List.length_append, List.append_assoc, ← Nat.add_assoc]
          rw [e1] at hd'
          exact hd'
        · have hif : Dp K Hf (V.ref p8) (.tuple [.str "if", e.dat, .int ((pl + done.length + 1 + (A'.code (pl + done.length + 1)).length + jl.length : Nat) : Int)]) := by
            have ei : ((pl : Int) + ((us.length : Nat) : Int)) + 1 + ((us2.length : Nat) : Int) + ((jl.length : Nat) : Int) = ((pl + done.length + 1 + (A'.code (pl + done.length + 1)).length + jl.length : Nat) : Int) := by rw [ul, ul2]; omega
            rw [ei] at h8
            exact .tup (SqT.of (tf _ _ h8)) (dp3 (.str _) (Ex.dp (TrIn.keep tf ((te.same s2).same s28))) (.int _))
          have hjp : Dp K Hf (V.ref p4) (.tuple [.str "jump", .int ((pl + done.length + 2 + (A'.code (pl + done.length + 1)).length + (B.code (pl + done.length + 2 + (A'.code (pl + done.length + 1)).length)).length : Nat) : Int)]) := .tup (SqT.of (tf _ _ ((s5.trans (s6.trans (s7.trans s8))) _ _ h4))) (dp2 (.str _) (.int _))
          have kus : DpAll K Hf us done := DpAll.keep k2f dot (DpAll.keep (Same.kpT s2) dot hdp)
          have kA : DpAll K Hf us2 (A'.code (pl + done.length + 1)) := DpAll.keep k2f (code_ot ok'.2.2.1 (by omega)) d2
          have kB : DpAll K Hf us3 (B.code (pl + done.length + 2 + (A'.code (pl + done.length + 1)).length)) := DpAll.keep ((Same.kpT (s4.trans (s5.trans (s6.trans (s7.trans s8))))).trans kf) (code_ot ok'.2.2.2.1 (by omega)) d3
          show DpAll K Hf _ (done ++ ifC e (A'.code (pl + done.length + 1)) B.isN (B.code (pl + done.length + 2 + (A'.code (pl + done.length + 1)).length)) (pl + done.length))
          unfold ifC
          rw [List.append_assoc, List.append_assoc, List.append_assoc]
          refine DpAll.app kus ?_
          cases bn : B.isN with
          | true =>
            rw [bn, if_pos rfl] at ejl ebl
            subst ejl
            subst ebl
            rw [if_pos rfl]
            show DpAll K Hf (V.ref p8 :: (us2 ++ [])) _
            rw [List.append_nil]
            exact .cons hif kA
          | false =>
            rw [bn, if_neg Bool.false_ne_true] at ejl ebl
            subst ejl
            subst ebl
            rw [if_neg Bool.false_ne_true]
            show DpAll K Hf (V.ref p8 :: (us2 ++ (V.ref p4 :: bl))) _
            refine .cons ?_ (DpAll.app kA (.cons hjp kB))
            have e9 : pl + done.length + 1 + (A'.code (pl + done.length + 1)).length + [V.ref p4].length = pl + done.length + 2 + (A'.code (pl + done.length + 1)).length := by show _ + 1 = _; omega
            rw [e9] at hif
            exact hif
      | nil => cases hR'
      | _ => cases ki
  · rintro σ H1 ⟨rs', done, l, us, y, z1, z2, z3, z4, rfl, hR', ok', hc', hd', hl, hl1, hdp, s1⟩
    rw [List.drop_length] at hR'
    have z' := Rs.isN_nil ((isN_iff hR').mpr rfl)
    subst z'
    have e : done = rs.code pl := by rw [← hd']; exact (List.append_nil done).symm
    exact ⟨_, rfl, q l us H1 s1 hl hl1 (e ▸ hdp)⟩
theorem lcodesAll {f : Addr} {fd : FuncData} (F : Fun K "_law_code" "_law_code" sLcode f fd) (mC : mg "_law_code" = some (.ref f)) (bC : Binds K fd ["_law_rows_here", "_law_at"] []) (T : Bi mg) : ∀ n : Nat, n ≤ 10 → FnOk P w K mg base CX0 (n + 1) f fd ["_law_rows_here", "_law_at"] (spRowsCode K n)
  | 0, h => ok_lcode (n := 0) (k := 0) h F (fun h => absurd h (by decide)) mC bC T
  | n + 1, h => ok_lcode (n := n + 1) (k := n + 1) h F (fun _ => lcodesAll F mC bC T n (by omega)) mC bC T
end
/-! ### ifs within one another -/
def ifsN : Nat → Nat
  | 0 => 1
  | n + 1 => 2 + 2 * ifsN n
/-- how many numbers it takes -/
def ifsT : Nat → Nat
  | 0 => 2
  | n + 1 => 2 + 2 * ifsT n
def spLifs (n : Nat) : Sp := fun vs H Q _ => ∃ (b : Addr) (k : Nat), vs = [.ref b, .int (n : Nat)] ∧ Bag H b (k + ifsT n) ∧
  ∀ (p : Addr) (xs : List V) (rs : Rs) (H' : Hp), H' p = some (.tup xs) → RsIn H' rs xs → Rs.ok n rs → rs.count ≤ ifsN n → Bag H' b k → But b H H' → Q (.ref p) H'
def spLifss (N : Nat) : Sp := fun vs H Q E => ∃ n, n ≤ N ∧ spLifs n vs H Q E
section
variable {P : Program} {w : World} {K : PySem.W.Frag} {mg : Str → Option Value} {base : Heap}
theorem nm_x : NmOk "x" := ⟨⟨by decide +kernel, by decide +kernel, by decide +kernel⟩, by decide +kernel⟩
theorem ok_lifs {N : Nat} {f t : Addr} {fd td : FuncData} (n3 : N ≤ 3) (F : Fun K "_law_ifs" "_law_ifs" sLifs f fd) (IFs : 1 ≤ N → FnOk P w K mg base CX0 (1 + N) f fd ["_law_bag_here", "_law_deep"] (spLifs (N - 1))) (mI : mg "_law_ifs" = some (.ref f)) (bI : Binds K fd ["_law_bag_here", "_law_deep"] []) (TK : Fk P w K mg base 1 "_law_take" t td ["_law_bag_here", "_law_many"] spTake) :
    FnOk P w K mg base CX0 (2 + N) f fd ["_law_bag_here", "_law_deep"] (spLifs N) := by
  rw [show 2 + N = 1 + N + 1 by omega]
  refine F.ok scLifs (fun vs H Q E h => ?_) (fun cdv A outer s H vs Q E hr h => ?_)
  · obtain ⟨b, k, rfl, _⟩ := h
    rfl
  obtain ⟨b, k, rfl, hB, q⟩ := h
  have BG : ∃ sp, FnOk P w K mg base CX0 (1 + N) f fd ["_law_bag_here", "_law_deep"] sp ∧ (1 ≤ N → sp = spLifs (N - 1)) := by
    by_cases h1 : 1 ≤ N
    · exact ⟨_, IFs h1, fun _ => rfl⟩
    · refine ⟨fun _ _ _ _ => False, ⟨fun _ _ _ _ h => h.elim, fun _ _ _ _ _ _ _ _ _ _ _ _ _ h => h.elim⟩, fun z => absurd z h1⟩
  obtain ⟨spB, GB, eB⟩ := BG
  have IF : Fk P w K mg base (1 + N) "_law_ifs" f fd ["_law_bag_here", "_law_deep"] spB := ⟨GB, mI, F.kp, bI⟩
  refine ⟨_, (pss_cons (ps_set (i := 2) scLifs.nd rfl (Or.inl rfl) (pe_tup (pa_cons pe_str (pa_cons pe_str (pa_cons (pe_tup (pa_cons pe_str (pa_cons (pe_call TK.G (hr.mono (by omega)) (by rfl) TK.m TK.k TK.b .nil pass0 (pa_cons (pv 0) (pa_cons pe_int pa_nil))) pa_nil))) pa_nil)))))
    (pss_cons (ps_if (pt_cmpR op_eq (pv 1) pe_int (nomark _))
      (pss_one (ps_ret (pe_ix ix_list (pe_lst (pa_cons (pe_tup pa_nil) (pa_cons (pe_tup (pa_cons (pv 2) pa_nil)) pa_nil))) (pe_call TK.G (hr.mono (by omega)) (by rfl) TK.m TK.k TK.b .nil pass0 (pa_cons (pv 0) (pa_cons pe_int pa_nil))) (fun _ _ => rfl))))
      pss_nil)
    (pss_cons (ps_set (i := 3) scLifs.nd rfl (Or.inl rfl) (pe_tup (pa_cons pe_str (pa_cons (pe_tup (pa_cons pe_str (pa_cons (pv 1) pa_nil))) (pa_cons (pe_call IF.G hr (by rfl) IF.m IF.k IF.b .nil pass0 (pa_cons (pv 0) (pa_cons (pe_op op_sub (pv 1) pe_int) pa_nil))) (pa_cons (pe_call IF.G hr (by rfl) IF.m IF.k IF.b .nil pass0 (pa_cons (pv 0) (pa_cons (pe_op op_sub (pv 1) pe_int) pa_nil))) pa_nil))))))
    (pss_one (ps_ret (pe_ix ix_list (pe_lst (pa_cons (pe_tup (pa_cons (pv 3) pa_nil)) (pa_cons (pe_tup (pa_cons (pv 3) (pa_cons (pv 2) pa_nil))) (pa_cons (pe_tup (pa_cons (pv 2) (pa_cons (pv 3) pa_nil))) (pa_cons (pe_tup pa_nil) pa_nil))))) (pe_call TK.G (hr.mono (by omega)) (by rfl) TK.m TK.k TK.b .nil pass0 (pa_cons (pv 0) (pa_cons pe_int pa_nil))) (fun _ _ => rfl))))))), ?_⟩
  have hs : sizeLine = 16777216 := by decide
  obtain ⟨yb, hyb⟩ := hB.lst
  have e5 : (9 : Int) < 1000000 ^ 5 := by decide
  have p3 : ∀ N : Nat, N ≤ 3 → ifsT N ≤ 30 := by
    intro N h
    have : N = 0 ∨ N = 1 ∨ N = 2 ∨ N = 3 := by omega
    rcases this with rfl | rfl | rfl | rfl <;> decide
  have it2 : 2 ≤ ifsT N := by cases N <;> (unfold ifsT; omega)
  refine ⟨_, rfl, b, 9, k + (ifsT N - 1), rfl, by decide, by decide, hB.less (by omega), fun d1 H1 a1 a2 B1 U1 => ?_⟩
  refine ⟨(by show 2 ≤ sizeLine; decide), fun p1 np1 => ⟨(by show 3 ≤ sizeLine; decide), fun p2 np2 => ?_⟩⟩
  have t1 := same_new np1 (.tup [V.str "number", .int d1])
  have t2 := same_new np2 (.tup [V.str "put", .str "x", .ref p1])
  have h1 := t2 _ _ (upd_same (H := H1) (a := p1) (o := .tup [V.str "number", .int d1]))
  have h2 := upd_same (H := upd H1 p1 (.tup [V.str "number", .int d1])) (a := p2) (o := .tup [V.str "put", .str "x", .ref p1])
  have s2 := t1.trans t2
  generalize upd (upd H1 p1 (.tup [V.str "number", .int d1])) p2 (.tup [V.str "put", .str "x", .ref p1]) = H2 at h1 h2 s2
  have fine1 : Ex.fine 6 (.num d1) := ⟨a1, by omega⟩
  have B2 := B1.same s2
  have U2 : But b H H2 := U1.trans (.of s2)
  have row1 : ∀ {H' : Hp}, H' p1 = some (.tup [V.str "number", .int d1]) → H' p2 = some (.tup [V.str "put", .str "x", .ref p1]) → ∀ {t : Rs} {r : List V}, RsIn H' t r → RsIn H' (.put "x" (.num d1) t) (.ref p2 :: r) := fun x y _ _ z => ⟨p2, _, _, rfl, y, trNum x, z⟩
  cases N with
  | zero =>
    refine ⟨_, rfl, rfl, true, (by decide +kernel), ?_⟩
    refine ⟨Nat.zero_le _, fun p3 np3 => ⟨_, rfl, (by show 1 ≤ sizeLine; decide), fun p4 np4 => ⟨(by show 2 ≤ sizeLine; decide), fun l5 nl5 => ?_⟩⟩⟩
    have t3 := same_new np3 (.tup [])
    have t4 := same_new np4 (.tup [V.ref p2])
    have t5 := same_new nl5 (.lst [V.ref p3, .ref p4])
    have h3 := (t4.trans t5) _ _ (upd_same (H := H2) (a := p3) (o := .tup []))
    have h4 := t5 _ _ (upd_same (H := upd H2 p3 (.tup [])) (a := p4) (o := .tup [V.ref p2]))
    have h5 := upd_same (H := upd (upd H2 p3 (.tup [])) p4 (.tup [V.ref p2])) (a := l5) (o := .lst [V.ref p3, .ref p4])
    have s5 := t3.trans (t4.trans t5)
    generalize upd (upd (upd H2 p3 (.tup [])) p4 (.tup [V.ref p2])) l5 (.lst [V.ref p3, .ref p4]) = H5 at h3 h4 h5 s5
    refine ⟨_, rfl, b, 2, k, rfl, by decide, by decide, (B2.same s5).less (by show k + 1 ≤ k + (2 - 1); omega), fun d6 H6 c1 c2 B6 U6 => ?_⟩
    obtain ⟨ys, hys⟩ := (B2.same s5).lst
    have nl : l5 ≠ b := fun z => by
      obtain ⟨ys2, hy2⟩ := B2.lst
      rw [z] at nl5
      rw [(t3.trans t4) _ _ hy2] at nl5
      cases nl5
    have k6 : KeepT H5 H6 := .but hys U6
    obtain ⟨v, ev, mv⟩ := menu (xs := [V.ref p3, .ref p4]) c1 c2
    refine ⟨l5, _, d6, v, rfl, rfl, SqL.of (U6 _ _ nl h5), ev, ?_⟩
    have U : But b H H6 := U2.trans ((But.of s5).trans U6)
    rcases List.mem_cons.mp mv with rfl | mv
    · exact q p3 _ .nil H6 (k6 _ _ h3) rfl trivial (Nat.zero_le _) B6 U
    · rw [List.mem_singleton.mp mv]
      exact q p4 _ (.put "x" (.num d1) .nil) H6 (k6 _ _ h4) (row1 (k6 _ _ (s5 _ _ h1)) (k6 _ _ (s5 _ _ h2)) rfl) ⟨nm_x, fine1, trivial⟩ (by show 1 + 0 ≤ 1; decide) B6 U
  | succ N =>
    obtain rfl : spB = spLifs N := eB (by omega)
    have eT : ifsT (N + 1) = 2 + 2 * ifsT N := rfl
    have eN : ifsN (N + 1) = 2 + 2 * ifsN N := rfl
    refine ⟨_, rfl, rfl, false, ?_, ?_⟩
    · show V.bl (decide (V.int ((N + 1 : Nat) : Int) = V.int 0)) = V.bl false
      rw [decide_eq_false (fun e => by have := V.int.inj e; omega)]
    have ed : (((N + 1 : Nat) : Int)) - 1 = (N : Int) := by omega
    refine ⟨_, rfl, (by show 2 ≤ sizeLine; decide), fun p3 np3 => ?_⟩
    have s3 := same_new np3 (.tup [V.str "number", .int ((N + 1 : Nat) : Int)])
    have h3 := upd_same (H := H2) (a := p3) (o := .tup [V.str "number", .int ((N + 1 : Nat) : Int)])
    generalize upd H2 p3 (.tup [V.str "number", .int ((N + 1 : Nat) : Int)]) = H3 at s3 h3
    have fine3 : Ex.fine 6 (.num ((N + 1 : Nat) : Int)) := ⟨by omega, by omega⟩
    refine ⟨_, rfl, _, rfl, _, _, rfl, rfl, b, k + 1 + ifsT N, (by show [V.ref b, V.int (((N + 1 : Nat) : Int) - 1)] = _; rw [ed]), (B2.same s3).less (by omega), fun pA xA A' H4 hA1 hA2 hA3 hA4 B4 U4 => ?_⟩
    obtain ⟨y3, hy3⟩ := (B2.same s3).lst
    have k4 : KeepT H3 H4 := .but hy3 U4
    refine ⟨_, rfl, _, rfl, _, _, rfl, rfl, b, k + 1, (by show [V.ref b, V.int (((N + 1 : Nat) : Int) - 1)] = _; rw [ed]), B4, fun pB xB B' H5 hB1 hB2 hB3 hB4 B5 U5 => ?_⟩
    obtain ⟨y4, hy4⟩ := B4.lst
    have k5 : KeepT H4 H5 := .but hy4 U5
    refine ⟨(by show 4 ≤ sizeLine; decide), fun p6 np6 => ?_⟩
    have s6 := same_new np6 (.tup [V.str "if", .ref p3, .ref pA, .ref pB])
    have h6 := upd_same (H := H5) (a := p6) (o := .tup [V.str "if", .ref p3, .ref pA, .ref pB])
    have B6 := B5.same s6
    generalize upd H5 p6 (.tup [V.str "if", .ref p3, .ref pA, .ref pB]) = H6 at s6 h6 B6
    have U6 : But b H H6 := U2.trans ((But.of s3).trans (U4.trans (U5.trans (.of s6))))
    have k26 : KeepT H2 H6 := (KeepT.of s3).trans (k4.trans (k5.trans (.of s6)))
    have k36 : KeepT H3 H6 := k4.trans (k5.trans (.of s6))
    have k46 : KeepT H4 H6 := k5.trans (.of s6)
    have k56 : KeepT H5 H6 := .of s6
    have iff1 : ∀ {H' : Hp}, KeepT H6 H' → ∀ {t : Rs} {r : List V}, RsIn H' t r → RsIn H' (.iff (.num ((N + 1 : Nat) : Int)) A' B' t) (.ref p6 :: r) := fun kk _ _ z =>
      ⟨p6, _, pA, xA, pB, xB, _, rfl, kk _ _ h6, trNum (kk _ _ (k36 _ _ h3)), kk _ _ (k46 _ _ hA1), RsIn.keep (k46.trans kk) hA2, kk _ _ (k56 _ _ hB1), RsIn.keep (k56.trans kk) hB2, z⟩
    -- the four
    refine ⟨_, rfl, (by show 1 ≤ sizeLine; decide), fun q1 nq1 => ⟨_, rfl, _, rfl, (by show 2 ≤ sizeLine; decide), fun q2 nq2 => ⟨_, rfl, _, rfl, (by show 2 ≤ sizeLine; decide), fun q3 nq3 => ⟨Nat.zero_le _, fun q4 nq4 => ⟨(by show 4 ≤ sizeLine; decide), fun l7 nl7 => ?_⟩⟩⟩⟩⟩
    have t1 := same_new nq1 (.tup [V.ref p6])
    have t2 := same_new nq2 (.tup [V.ref p6, .ref p2])
    have t3 := same_new nq3 (.tup [V.ref p2, .ref p6])
    have t4 := same_new nq4 (.tup [])
    have t5 := same_new nl7 (.lst [V.ref q1, .ref q2, .ref q3, .ref q4])
    have g1 := (t2.trans (t3.trans (t4.trans t5))) _ _ (upd_same (H := H6) (a := q1) (o := .tup [V.ref p6]))
    have g2 := (t3.trans (t4.trans t5)) _ _ (upd_same (a := q2) (o := .tup [V.ref p6, .ref p2]))
    have g3 := (t4.trans t5) _ _ (upd_same (a := q3) (o := .tup [V.ref p2, .ref p6]))
    have g4 := t5 _ _ (upd_same (a := q4) (o := .tup []))
    have g5 : (upd _ l7 (.lst [V.ref q1, .ref q2, .ref q3, .ref q4])) l7 = _ := upd_same (H := upd (upd (upd (upd H6 q1 (.tup [V.ref p6])) q2 (.tup [V.ref p6, .ref p2])) q3 (.tup [V.ref p2, .ref p6])) q4 (.tup []))
    have s7 := t1.trans (t2.trans (t3.trans (t4.trans t5)))
    have nl : l7 ≠ b := fun z => by
      obtain ⟨ys2, hy2⟩ := B6.lst
      rw [z, (t1.trans (t2.trans (t3.trans t4))) _ _ hy2] at nl7
      cases nl7
    generalize upd (upd (upd (upd (upd H6 q1 (.tup [V.ref p6])) q2 (.tup [V.ref p6, .ref p2])) q3 (.tup [V.ref p2, .ref p6])) q4 (.tup [])) l7 (.lst [V.ref q1, .ref q2, .ref q3, .ref q4]) = H7 at g1 g2 g3 g4 g5 s7
    refine ⟨_, rfl, b, 4, k, rfl, by decide, by decide, B6.same s7, fun d8 H8 c1 c2 B8 U8 => ?_⟩
    obtain ⟨ys, hys⟩ := (B6.same s7).lst
    have k78 : KeepT H7 H8 := .but hys U8
    have k68 : KeepT H6 H8 := (KeepT.of s7).trans k78
    obtain ⟨v, ev, mv⟩ := menu (xs := [V.ref q1, .ref q2, .ref q3, .ref q4]) c1 c2
    refine ⟨l7, _, d8, v, rfl, rfl, SqL.of (U8 _ _ nl g5), ev, ?_⟩
    have U : But b H H8 := U6.trans ((But.of s7).trans U8)
    have k28 := k26.trans k68
    have r1 := fun {t : Rs} {r : List V} (z : RsIn H8 t r) => row1 (k28 _ _ h1) (k28 _ _ h2) z
    have okI : ∀ t : Rs, Rs.ok (N + 1) t → Rs.ok (N + 1) (.iff (.num ((N + 1 : Nat) : Int)) A' B' t) := fun t h => ⟨by omega, fine3, hA3, hB3, h⟩
    have okP : ∀ t : Rs, Rs.ok (N + 1) t → Rs.ok (N + 1) (.put "x" (.num d1) t) := fun t h => ⟨nm_x, fine1, h⟩
    rcases List.mem_cons.mp mv with rfl | mv
    · exact q q1 _ _ H8 (k78 _ _ g1) (iff1 k68 (t := .nil) rfl) (okI _ trivial) (by show 1 + A'.count + B'.count + 0 ≤ _; omega) B8 U
    rcases List.mem_cons.mp mv with rfl | mv
    · exact q q2 _ _ H8 (k78 _ _ g2) (iff1 k68 (r1 (t := .nil) rfl)) (okI _ (okP _ trivial)) (by show 1 + A'.count + B'.count + (1 + 0) ≤ _; omega) B8 U
    rcases List.mem_cons.mp mv with rfl | mv
    · exact q q3 _ _ H8 (k78 _ _ g3) (r1 (iff1 k68 (t := .nil) rfl)) (okP _ (okI _ trivial)) (by show 1 + (1 + A'.count + B'.count + 0) ≤ _; omega) B8 U
    · rw [List.mem_singleton.mp mv]
      exact q q4 _ .nil H8 (k78 _ _ g4) rfl trivial (Nat.zero_le _) B8 U
theorem lifsAll {f t : Addr} {fd td : FuncData} (F : Fun K "_law_ifs" "_law_ifs" sLifs f fd) (mI : mg "_law_ifs" = some (.ref f)) (bI : Binds K fd ["_law_bag_here", "_law_deep"] []) (TK : Fk P w K mg base 1 "_law_take" t td ["_law_bag_here", "_law_many"] spTake) : ∀ n : Nat, n ≤ 3 → FnOk P w K mg base CX0 (2 + n) f fd ["_law_bag_here", "_law_deep"] (spLifs n)
  | 0, h => ok_lifs (N := 0) h F (fun h => absurd h (by decide)) mI bI TK
  | n + 1, h => ok_lifs (N := n + 1) h F (fun _ => by rw [show 1 + (n + 1) = 2 + n by omega]; exact lifsAll F mI bI TK n (by omega)) mI bI TK
theorem lifss {f t : Addr} {fd td : FuncData} (F : Fun K "_law_ifs" "_law_ifs" sLifs f fd) (mI : mg "_law_ifs" = some (.ref f)) (bI : Binds K fd ["_law_bag_here", "_law_deep"] []) (TK : Fk P w K mg base 1 "_law_take" t td ["_law_bag_here", "_law_many"] spTake) : FnOk P w K mg base CX0 5 f fd ["_law_bag_here", "_law_deep"] (spLifss 3) :=
  ⟨fun vs H Q E ⟨n, hn, h⟩ => (lifsAll (P := P) (w := w) (base := base) F mI bI TK n hn).len vs H Q E h, fun A outer s H args us vs Q E hr e0 hb hv ⟨n, hn, h⟩ => (lifsAll F mI bI TK n hn).run A outer s H args us vs Q E (hr.mono (by omega)) e0 hb hv h⟩
end
end SH

set_option Elab.async false
set_option linter.all false
set_option maxRecDepth 100000
namespace SH
open PySem L2
abbrev sLright : Stmt := topS 16
abbrev sLaw : Stmt := topS 17
theorem scLright : FnScope ["_law_work", "_law_due", "_law_shown", "_law_again", "_law_found", "_law_text"] ["_law_work"] (defScope sLright) := ⟨rfl, rfl, rfl, by decide +kernel, rfl, by decide +kernel, by decide +kernel⟩
theorem scLaw : FnScope ["_law_script", "_law_k", "_law_bag_here", "_law_works_here", "_law_work"] ["_law_script"] (defScope sLaw) := ⟨rfl, rfl, rfl, by decide +kernel, rfl, by decide +kernel, by decide +kernel⟩
structure FkG (P : Program) (w : World) (K : PySem.W.Frag) (mg : Str → Option Value) (base : Heap) (lv : Nat) (x : Str) (f : Addr) (fd : FuncData) (ps : List Str) (sp : Sp) : Prop where
  G : FnG P w K mg base lv f fd ps sp
  m : mg x = some (.ref f)
  k : PySem.W.keepIn K (.ref f) = true
  b : Binds K fd ps []
/-- a told list beside its text -/
def ShAt (K : PySem.W.Frag) (ls : Addr) (H : Hp) (v : V) : Prop := ∃ (t D : Addr) (vs : List V) (ds : List PyData), v = .ref t ∧ H t = some (.tup [.ref D, .str (PyData.list ds).shown]) ∧ D ≠ ls ∧ H D = some (.lst vs) ∧ DpAll K H vs ds ∧ NiceL ds
theorem KpT.but {K : PySem.W.Frag} {b : Addr} {ys : List V} {H H' : Hp} (hb : H b = some (.lst ys)) (h : But b H H') : KpT K H H' := fun a xs q => by
  rcases q with (q | ⟨o, q⟩) | q
  · exact .inl (.inl (h _ _ (fun z => by rw [z, hb] at q; cases q) q))
  · exact .inl (.inr ⟨o, h _ _ (fun z => by rw [z, hb] at q; cases q) q⟩)
  · exact .inr q
theorem ShAt.but {K : PySem.W.Frag} {ls : Addr} {ys : List V} {H H' : Hp} {v : V} (hb : H ls = some (.lst ys)) (h : But ls H H') : ShAt K ls H v → ShAt K ls H' v
  | ⟨t, D, vs, ds, e, ht, n, hD, dp, ni⟩ => ⟨t, D, vs, ds, e, h _ _ (fun z => by rw [z, hb] at ht; cases ht) ht, n, h _ _ n hD, DpAll.keep (KpT.but hb h) ni.ot dp, ni⟩
def spLright : Sp := fun vs H Q _ => ∃ (v : V) (W : Wk) (n : Nat), n ≤ 3 ∧ vs = [v] ∧ WkIn H W v ∧ Rs.ok n W.rows ∧ W.rows.count ≤ 40 ∧ ∀ H', Same H H' → Q (.bl true) H'
section
variable {P : Program} {w : World} {K : PySem.W.Frag} {mg : Str → Option Value} {base : Heap}
theorem ok_lright {f i j : Addr} {fd idd jd : FuncData} (F : Fun K "_law_is_right" "_law_is_right" sLright f fd) (LC : Fk P w K mg base 4 "_law_code" i idd ["_law_rows_here", "_law_at"] (spRowsCode K 3)) (CO : Fk P w K mg base 9 "code_of" j jd ["work"] (spCodeOf K)) (T : Bi mg) (mt : mg "list" = none) (q_repr : mg "repr" = none) : FnG P w K mg base 10 f fd ["_law_work"] spLright := by
  refine okG F scLright (fun vs H Q E h => ?_) (fun cdv A outer s H vs Q E gd hr h => ?_)
  · obtain ⟨v, W, n, _, rfl, _⟩ := h
    rfl
  obtain ⟨v, W, n, hn, rfl, ⟨a, pn, pr, xs, rfl, ha, hpn, hpr, hR⟩, hok, hc, q⟩ := h
  refine ⟨_, (pss_cons (ps_set (i := 1) scLright.nd rfl (Or.inl rfl) (pe_op op_cat (pe_call LC.G (hr.mono (by omega)) (by rfl) LC.m LC.k LC.b .nil pass0 (pa_cons (pe_ix ix_tup (pv 0) pe_int (fun _ _ => rfl)) (pa_cons pe_int pa_nil))) (pe_lst (pa_cons (pe_tup (pa_cons pe_str (pa_cons (pe_tup (pa_cons pe_str (pa_cons pe_int pa_nil))) pa_nil))) pa_nil))))
    (pss_cons (ps_set (i := 2) scLright.nd rfl (Or.inl rfl) (pe_lst pa_nil))
    (pss_cons (ps_for PassesOwn.never rfl (pi_range1 (by rfl) T.range (pa_cons pe_int pa_nil)) (pg_name (i := 3) scLright.nd rfl (.inl rfl))
      (pss_cons (ps_set (i := 4) scLright.nd rfl (Or.inl rfl) (pe_call CO.G (hr.mono (by omega)) (by rfl) CO.m CO.k CO.b .nil pass0 (pa_cons (pv 0) pa_nil)))
    (pss_cons (ps_if (PW.pt (pw_or (pt_not (pt_val (pe_callB call_isi (by rfl) T.isinstance (by decide +kernel) (pa_cons (pv 4) (pa_cons (pe_bltn (v := .ty "list") (by rfl) mt (by decide +kernel) rfl) pa_nil))))) (pw_or (pt_cmpR (op_neD hr.units) (pv 4) (pv 1) (nomark _)) (pw_or1 (pt_cmpR op_ne (pe_callB (call_reprD gd hr.units) (by rfl) q_repr (by decide +kernel) (pa_cons (pv 4) pa_nil)) (pe_callB (call_reprD gd hr.units) (by rfl) q_repr (by decide +kernel) (pa_cons (pv 1) pa_nil)) (nomark _))))))
      (pss_one (ps_ret pe_bl))
      pss_nil)
    (pss_cons (ps_expr (pe_bm PySem.F.plainAttrs_list PySem.F.slot_list_append PySem.F.type_list_append mt_append (pv 4) (pa_cons (pv 3) pa_nil)))
    (pss_cons (ps_expr (pe_bm0 PySem.F.plainAttrs_list PySem.F.slot_list_reverse PySem.F.type_list_reverse mt_reverse (pv 4)))
    (pss_one (ps_expr (pe_bm PySem.F.plainAttrs_list PySem.F.slot_list_append PySem.F.type_list_append mt_append (pv 2) (pa_cons (pe_tup (pa_cons (pv 4) (pa_cons (pe_callB (call_reprD gd hr.units) (by rfl) q_repr (by decide +kernel) (pa_cons (pv 4) pa_nil)) pa_nil))) pa_nil)))))))))
    (pss_one (ps_ret (pe_callB (cr_all rfl) (by rfl) T.all (by decide +kernel) (pa_cons (pe_lc (own := [("_law_found", 4), ("_law_text", 5)]) (g := gTup K 2 (gCons (gName 4) (gCons (gName 5) gNil))) (tt := tYes) (by rfl) scLright.nd (pi_list (pv 2)) (blkOk_by (own := [("_law_found", 4), ("_law_text", 5)]) (N := ["_law_work", "_law_due", "_law_shown", "_law_again", "_law_found", "_law_text"]) (sc := defScope sLright) (by decide +kernel)) (fun _ _ _ _ _ => pg_tup rfl (pgs_cons (pg_name (i := 4) scLright.nd rfl (Or.inl rfl)) (pgs_cons (pg_name (i := 5) scLright.nd rfl (Or.inl rfl)) pgs_nil))) (fun _ _ _ _ _ => pts_nil) (fun _ _ _ _ _ => (pe_cmpR op_eq (pe_callB (call_reprK K gd hr.units) (by rfl) q_repr (by decide +kernel) (pa_cons (pv 4) pa_nil)) (pv 5) (nomark _)))) pa_nil))))))), ?_⟩
  have hs : sizeLine = 16777216 := by decide
  have lA := W.rows.code_len 0
  refine ⟨_, rfl, a, _, 4, _, rfl, rfl, SqT.of ha, atI_nat (j := 4) rfl, pr, xs, W.rows, 0, rfl, hpr, hR, Rs.ok_up hn hok, hc, by omega, fun l1 us1 H1 s1 nl1 h1 d1 => ?_⟩
  refine ⟨(by show 2 ≤ sizeLine; decide), fun p1 np1 => ⟨(by show 2 ≤ sizeLine; decide), fun p2 np2 => ⟨(by show 1 ≤ sizeLine; decide), fun p3 np3 => ?_⟩⟩⟩
  have t1 := same_new np1 (.tup [V.str "number", .int 0])
  have t2 := same_new np2 (.tup [V.str "give", .ref p1])
  have t3 := same_new np3 (.lst [V.ref p2])
  have hp1 := t3 _ _ (t2 _ _ (upd_same (H := H1) (a := p1) (o := .tup [V.str "number", .int 0])))
  have hp2 := t3 _ _ (upd_same (H := upd H1 p1 (.tup [V.str "number", .int 0])) (a := p2) (o := .tup [V.str "give", .ref p1]))
  have h3 := upd_same (H := upd (upd H1 p1 (.tup [V.str "number", .int 0])) p2 (.tup [V.str "give", .ref p1])) (a := p3) (o := .lst [V.ref p2])
  have s3 := t1.trans (t2.trans t3)
  generalize upd (upd (upd H1 p1 (.tup [V.str "number", .int 0])) p2 (.tup [V.str "give", .ref p1])) p3 (.lst [V.ref p2]) = H3 at hp1 hp2 h3 s3
  have ul := DpAll.len d1
  refine ⟨l1, p3, us1, [V.ref p2], rfl, rfl, s3 _ _ h1, h3, by show _ + 1 ≤ _; omega, fun ld nld => ?_⟩
  have t4 := same_new nld (.lst (us1 ++ [V.ref p2]))
  have k4 := Same.kpT (K := K) (s3.trans t4)
  have s04 := (s1.trans s3).trans t4
  have hd4 := upd_same (H := H3) (a := ld) (o := .lst (us1 ++ [V.ref p2]))
  have dd4 : DpAll K (upd H3 ld (.lst (us1 ++ [V.ref p2]))) (us1 ++ [V.ref p2]) (wcode W.rows) := DpAll.app (DpAll.keep k4 (code_ot hok (by omega)) d1) (.cons (.tup (SqT.of (t4 _ _ hp2)) (dp2 (.str _) (.tup (SqT.of (t4 _ _ hp1)) (dp2 (.str _) (.int _))))) .nil)
  generalize upd H3 ld (.lst (us1 ++ [V.ref p2])) = H4 at t4 k4 s04 hd4 dd4
  generalize us1 ++ [V.ref p2] = vd at hd4 dd4
  have ni0 : NiceL (wcode W.rows) := code_niceL hok hc (more := []) (fun d hd => by cases hd) (by decide) (fun d hd => by rw [List.append_nil]; exact hd) (by rw [List.append_nil])
  refine ⟨Nat.zero_le _, fun ls nls => ?_⟩
  have s5 := same_new nls (.lst [])
  have nds : ld ≠ ls := ne_of_none hd4 nls
  refine ⟨2, rfl, by decide, by decide, ?_⟩
  refine for_range (lo := 0) (n := 2) (fun t σ H' => ∃ (y3 y4 : Option V) (sv : List V), σ = [some (.ref a), some (.ref ld), some (.ref ls), y3, y4, none] ∧ H' ls = some (.lst sv) ∧ sv.length = t ∧ (∀ v ∈ sv, ShAt K ls H' v) ∧ Same H4 H') ?_ ?_ ?_
  · exact ⟨none, none, [], rfl, upd_same, rfl, fun v hv => (by cases hv), s5⟩
  · rintro t σ H6 ht ⟨y3, y4, sv, rfl, hls, lsv, hsv, s46⟩
    have s06 := s04.trans s46
    refine ⟨_, rfl, _, W, n, hn, rfl, ⟨a, pn, pr, xs, rfl, s06 _ _ ha, s06 _ _ hpn, s06 _ _ hpr, hR.same s06⟩, hok, hc, fun l7 us7 H7 s7 nl7 h7 d7 => ?_⟩
    have d7' : Dp K H7 (.ref l7) (.list (wcode W.rows)) := .lst (SqL.of h7) d7
    have dd7 : Dp K H7 (.ref ld) (.list (wcode W.rows)) := .lst (SqL.of (s7 _ _ (s46 _ _ hd4))) (DpAll.keep (Same.kpT (s46.trans s7)) ni0.ot dd4)
    refine ⟨_, rfl, _, _, _, _, true, rfl, .ty "list", .base (.lst h7), kit_ty (by decide +kernel), _, rfl, ?_⟩
    refine ⟨_, rfl, _, rfl, _, _, d7', dd7, ni0.shaped, ni0.shaped, ?_⟩
    rw [ni0.refl]
    refine ⟨false, rfl, ?_⟩
    have d60 : (PyData.list (wcode W.rows)).depth ≤ 60 := Nat.le_trans ni0.dep (by decide)
    refine ⟨_, rfl, l7, _, rfl, d7', ni0.sh, ni0.nd, d60, ni0.sz, _, rfl, ld, _, rfl, dd7, ni0.sh, ni0.nd, d60, ni0.sz, rfl, _, rfl, ?_⟩
    refine iteNS rfl ?_
    have nls7 : l7 ≠ ls := fun z => by rw [z, hls] at nl7; cases nl7
    have hls7 := s7 _ _ hls
    have len7 := DpAll.len d7
    have lw := wcode_len W.rows
    -- append, reverse
    refine ⟨_, rfl, .inl ⟨rfl, _, SqL.of h7⟩, _, rfl, l7, us7, _, rfl, rfl, h7, by omega, ?_⟩
    have k8 : KpT K H7 (upd H7 l7 (.lst (us7 ++ [V.int (0 + (t : Int))]))) := KpT.lst h7
    have h8 := upd_same (H := H7) (a := l7) (o := .lst (us7 ++ [V.int (0 + (t : Int))]))
    have s68 : Same H6 (upd H7 l7 (.lst (us7 ++ [V.int (0 + (t : Int))]))) := fun b o z => by
      rw [upd_ne (ne_of_none z nl7)]
      exact s7 _ _ z
    have d8 := DpAll.app (DpAll.keep k8 ni0.ot d7) (DpAll.cons (K := K) (H := upd H7 l7 (.lst (us7 ++ [V.int (0 + (t : Int))]))) (Dp.int (0 + (t : Int))) .nil)
    generalize upd H7 l7 (.lst (us7 ++ [V.int (0 + (t : Int))])) = H8 at k8 h8 s68 d8
    refine ⟨_, rfl, .inl ⟨rfl, _, SqL.of h8⟩, l7, _, rfl, rfl, h8, ?_⟩
    obtain ⟨ds9, e9⟩ : ∃ ds9, ds9 = (wcode W.rows ++ [PyData.int (0 + (t : Int))]).reverse := ⟨_, rfl⟩
    have ni9 : NiceL ds9 := code_niceL hok hc (more := [PyData.int (0 + (t : Int))]) (fun d hd => by
      rw [List.mem_singleton.mp hd]
      have k2 : (2 : Nat) < 2 ^ 100 := by decide
      exact (nice_int (n := 8) (by omega)).up (Nat.le_refl _) (by decide)) (by show 1 ≤ 10; decide) (fun d hd => by rw [e9] at hd; exact List.mem_reverse.mp hd) (by rw [e9, List.length_reverse])
    have k9 : KpT K H8 (upd H8 l7 (.lst (us7 ++ [V.int (0 + (t : Int))]).reverse)) := KpT.lst h8
    have h9 := upd_same (H := H8) (a := l7) (o := .lst (us7 ++ [V.int (0 + (t : Int))]).reverse)
    have s69 : Same H6 (upd H8 l7 (.lst (us7 ++ [V.int (0 + (t : Int))]).reverse)) := fun b o z => by
      rw [upd_ne (ne_of_none z nl7)]
      exact s68 _ _ z
    have d9 : DpAll K (upd H8 l7 (.lst (us7 ++ [V.int (0 + (t : Int))]).reverse)) (us7 ++ [V.int (0 + (t : Int))]).reverse ds9 := by
      have := DpAll.rev d8
      rw [← e9] at this
      exact DpAll.keep k9 ni9.ot this
    generalize upd H8 l7 (.lst (us7 ++ [V.int (0 + (t : Int))]).reverse) = H9 at k9 h9 s69 d9
    generalize (us7 ++ [V.int (0 + (t : Int))]).reverse = v9 at h9 d9
    have hls9 := s69 _ _ hls
    have D9 : Dp K H9 (.ref l7) (.list ds9) := .lst (SqL.of h9) d9
    -- shown.append((found, repr(found)))
    refine ⟨_, rfl, .inl ⟨rfl, _, SqL.of hls9⟩, ?_⟩
    refine ⟨_, rfl, _, rfl, l7, _, rfl, D9, ni9.sh, ni9.nd, Nat.le_trans ni9.dep (by decide), ni9.sz, (by show 2 ≤ sizeLine; decide), fun pt npt => ?_⟩
    have sA := same_new npt (.tup [V.ref l7, .str (PyData.list ds9).shown])
    have hA := upd_same (H := H9) (a := pt) (o := .tup [V.ref l7, .str (PyData.list ds9).shown])
    generalize upd H9 pt (.tup [V.ref l7, .str (PyData.list ds9).shown]) = HA at sA hA
    have hlsA := sA _ _ hls9
    refine ⟨ls, sv, _, rfl, rfl, hlsA, by omega, ?_⟩
    have b1 : But ls HA (upd HA ls (.lst (sv ++ [V.ref pt]))) := fun x o n z => by rw [upd_ne n]; exact z
    refine ⟨_, _, sv ++ [V.ref pt], rfl, upd_same, by rw [List.length_append, lsv]; rfl, fun v hv => ?_, ?_⟩
    · rcases List.mem_append.mp hv with hv | hv
      · exact ShAt.but hlsA b1 (ShAt.but hls (But.of (s69.trans sA)) (hsv v hv))
      · rw [List.mem_singleton.mp hv]
        exact ShAt.but hlsA b1 ⟨pt, l7, v9, ds9, rfl, hA, nls7, sA _ _ h9, DpAll.keep (Same.kpT sA) ni9.ot d9, ni9⟩
    · intro b o z
      rw [upd_ne (fun e => by rw [e] at z; rw [nls] at z; cases z)]
      exact (s69.trans sA) _ _ (s46 _ _ z)
  · rintro σ H6 ⟨y3, y4, sv, rfl, hls, lsv, hsv, s46⟩
    refine ⟨_, rfl, ls, rfl, ⟨_, SqL.of hls⟩, ?_⟩
    intro D hD
    have nD : D ≠ ls := fun z => by rw [z, hls] at hD; cases hD
    refine lc_list (K := K) (a := ls) (xs := sv) (fun j H' => H' D = some (.lst ((List.replicate j true).map V.bl)) ∧ Same H6 H') ⟨upd_same, same_new hD _⟩ (fun j H' _ h => SqL.of (h.2 _ _ hls)) ?_ ?_
    · rintro j v H7 hv ⟨hD7, s7⟩
      obtain ⟨t, D', vs, ds, rfl, ht, n', hD', dp, ni⟩ := hsv v (List.mem_of_getElem? hv)
      have hj : j < sv.length := (List.getElem?_eq_some_iff.mp hv).1
      refine ⟨_, _, rfl, SqT.of (s7 _ _ ht), rfl, _, _, rfl, _, _, rfl, rfl, rfl, ?_⟩
      refine ⟨_, rfl, D', _, rfl, .lst (SqL.of (s7 _ _ hD')) (DpAll.keep (Same.kpT s7) ni.ot dp), ni.sh, ni.nd, Nat.le_trans ni.dep (by decide), ni.sz, _, rfl, rfl, ?_⟩
      refine ⟨_, hD7, by rw [List.length_map, List.length_replicate]; omega, ?_, ?_⟩
      · rw [upd_same, decide_eq_true rfl, List.replicate_succ', List.map_append]
        rfl
      · intro b o z
        rw [upd_ne (ne_of_none z hD)]
        exact s7 _ _ z
    · rintro H7 ⟨hD7, s7⟩
      refine ⟨D, _, rfl, SqL.of hD7, ?_⟩
      rw [all_true]
      exact q H7 (s04.trans (s46.trans s7))
theorem fresh_but {b : Addr} {H0 H1 H2 : Hp} (s : Same H0 H1) (hb : H0 b = none) (u : But b H1 H2) : Same H0 H2 := fun a o e => u a o (ne_of_none e hb) (s a o e)
theorem catA_of {K : PySem.W.Frag} {H : Hp} {a b : Addr} {xs ys : List V} {Q : VK} (ha : H a = some (.tup xs)) (hb : H b = some (.tup ys)) (l : xs.length + ys.length ≤ sizeLine) (q : ∀ p H', Same H H' → H' p = some (.tup (xs ++ ys)) → Q (.ref p) H') : rCatA K (.ref a) (.ref b) H Q :=
  ⟨a, b, xs, ys, rfl, rfl, SqT.of ha, SqT.of hb, l, fun z => q b H (Same.refl H) (by rw [z]; exact hb), fun _ z => q a H (Same.refl H) (by rw [z, List.append_nil]; exact ha), fun _ _ p hp => q p _ (same_new hp _) upd_same⟩
def spLaw (K : PySem.W.Frag) : Sp := fun vs H Q _ => ∃ (a : Addr) (ns : List Int), vs = [.ref a] ∧ SqL K H a (ns.map V.int) ∧ ns.length ≤ 63 ∧ ∀ H', Q (.bl true) H'
theorem nm_f : NmOk "f" := ⟨⟨by decide +kernel, by decide +kernel, by decide +kernel⟩, by decide +kernel⟩
/-- what is asked: works whose rows are rows -/
def WkR (H : Hp) (v : V) : Prop := ∃ (W : Wk) (n : Nat), n ≤ 3 ∧ WkIn H W v ∧ Rs.ok n W.rows ∧ W.rows.count ≤ 40
theorem ok_law {f g h i j : Addr} {fd gd' hd' idd jd : FuncData} (F : Fun K "law" "law" sLaw f fd) (BG : Fk P w K mg base 1 "_law_bag" g gd' ["_law_script", "_law_k"] (spBag K)) (WS : Fk P w K mg base 17 "_law_works" h hd' ["_law_bag_here", "_law_most"] spWorks) (IF : Fk P w K mg base 5 "_law_ifs" i idd ["_law_bag_here", "_law_deep"] (spLifss 3)) (IR : FkG P w K mg base 10 "_law_is_right" j jd ["_law_work"] spLright) (T : Bi mg) : FnG P w K mg base 18 f fd ["_law_script"] (spLaw K) := by
  refine okG F scLaw (fun vs H Q E h => ?_) (fun cdv A outer s H vs Q E gd hr h => ?_)
  · obtain ⟨a, ns, rfl, _⟩ := h
    rfl
  obtain ⟨a, ns, rfl, hSc, h63, q⟩ := h
  refine ⟨_, (pss_cons (ps_for PassesOwn.never rfl (pi_range1 (by rfl) T.range (pa_cons (pe_callB (call_max2 rfl) (by rfl) T.max (by decide +kernel) (pa_cons pe_int (pa_cons (pe_callB (call_min2 rfl) (by rfl) T.min (by decide +kernel) (pa_cons pe_int (pa_cons (pe_callB call_len_seq (by rfl) T.len (by decide +kernel) (pa_cons (pv 0) pa_nil)) pa_nil))) pa_nil))) pa_nil)) (pg_name (i := 1) scLaw.nd rfl (.inl rfl))
      (pss_cons (ps_set (i := 2) scLaw.nd rfl (Or.inl rfl) (pe_call BG.G (hr.mono (by omega)) (by rfl) BG.m BG.k BG.b .nil pass0 (pa_cons (pv 0) (pa_cons (pv 1) pa_nil))))
    (pss_cons (ps_set (i := 3) scLaw.nd rfl (Or.inl rfl) (pe_call WS.G (hr.mono (by omega)) (by rfl) WS.m WS.k WS.b .nil pass0 (pa_cons (pv 2) (pa_cons pe_int pa_nil))))
    (pss_cons (ps_expr (pe_bm PySem.F.plainAttrs_list PySem.F.slot_list_append PySem.F.type_list_append mt_append (pv 3) (pa_cons (pe_tup (pa_cons pe_str (pa_cons pe_str (pa_cons (pe_tup pa_nil) (pa_cons pe_int (pa_cons (pe_op op_catA (pe_call IF.G (hr.mono (by omega)) (by rfl) IF.m IF.k IF.b .nil pass0 (pa_cons (pv 2) (pa_cons pe_int pa_nil))) (pe_call IF.G (hr.mono (by omega)) (by rfl) IF.m IF.k IF.b .nil pass0 (pa_cons (pv 2) (pa_cons pe_int pa_nil)))) pa_nil)))))) pa_nil)))
    (pss_one (ps_if (pt_not (pt_val (pe_callB (cr_all rfl) (by rfl) T.all (by decide +kernel) (pa_cons (pe_lc (own := [("_law_work", 4)]) (g := gName 4) (tt := tYes) (by rfl) scLaw.nd (pi_list (pe_op op_cat (pv 3) (pe_slice sl_list (pv 3) po_none (po_some pe_int)))) (blkOk_by (own := [("_law_work", 4)]) (N := ["_law_script", "_law_k", "_law_bag_here", "_law_works_here", "_law_work"]) (sc := defScope sLaw) (by decide +kernel)) (fun _ _ _ _ _ => pg_name (i := 4) scLaw.nd rfl (Or.inl rfl)) (fun _ _ _ _ _ => pts_nil) (fun _ _ _ _ _ => (pe_callG IR.G gd (hr.mono (by omega)) (by rfl) IR.m IR.k IR.b (pa_cons (pv 4) pa_nil)))) pa_nil))))
      (pss_one (ps_ret pe_bl))
      pss_nil))))))
    (pss_one (ps_ret (pe_callG IR.G gd (hr.mono (by omega)) (by rfl) IR.m IR.k IR.b (pa_cons (pe_tup (pa_cons pe_str (pa_cons pe_str (pa_cons (pe_tup pa_nil) (pa_cons pe_int (pa_cons (pe_tup pa_nil) pa_nil)))))) pa_nil))))), ?_⟩
  have hs : sizeLine = 16777216 := by decide
  have hnum : ∃ N : Int, N = (if (if ((ns.map V.int).length : Int) < 5 then ((ns.map V.int).length : Int) else 5) > 2 then (if ((ns.map V.int).length : Int) < 5 then ((ns.map V.int).length : Int) else 5) else 2) ∧ 0 ≤ N ∧ N ≤ 5 := by
    refine ⟨_, rfl, ?_, ?_⟩ <;> (split <;> (try split) <;> omega)
  obtain ⟨N, eN, N0, N4⟩ := hnum
  refine ⟨_, rfl, a, _, rfl, .inl hSc, _, _, rfl, _, _, rfl, N, (by rw [eN]), by omega, by omega, ?_⟩
  refine for_range (lo := 0) (n := N.toNat) (fun i σ H' => ∃ (y1 y2 y3 : Option V), σ = [some (.ref a), y1, y2, y3, none] ∧ Same H H') ?_ ?_ ?_
  · exact ⟨none, none, none, rfl, Same.refl _⟩
  · rintro i σ H1 hi ⟨y1, y2, y3, rfl, sH⟩
    have hi5 : i < 5 := by omega
    refine ⟨_, rfl, _, rfl, a, ns, 0 + (i : Int), rfl, sH.seq hSc, by omega, by omega, fun b H2 s2 nb B2 => ?_⟩
    refine ⟨_, rfl, b, 3, 9000000, rfl, by decide, by decide, B2.less (by decide), fun l us Ws H3 nl hl hW ok l1 l3 B3 U3 => ?_⟩
    have s3 : Same H1 H3 := fresh_but s2 nb U3
    have nlb : l ≠ b := fun z => by obtain ⟨ys, hy⟩ := B2.lst; rw [z, hy] at nl; cases nl
    -- one more, of ifs
    refine ⟨_, rfl, .inl ⟨rfl, _, SqL.of hl⟩, ?_⟩
    refine ⟨Nat.zero_le _, fun p4 np4 => ?_⟩
    have s4 := same_new np4 (.tup [])
    have h4 := upd_same (H := H3) (a := p4) (o := .tup [])
    have B4 := B3.same s4
    generalize upd H3 p4 (.tup []) = H4 at s4 h4 B4
    obtain ⟨y4, hy4⟩ := B4.lst
    refine ⟨_, rfl, 3, by decide, b, 8000000, rfl, B4.less (by decide), fun pA xA A' H5 hA1 hA2 hA3 hA4 B5 U5 => ?_⟩
    obtain ⟨y5, hy5⟩ := B5.lst
    refine ⟨_, rfl, 2, by decide, b, 7000000, rfl, B5.less (by decide), fun pB xB B' H6 hB1 hB2 hB3 hB4 B6 U6 => ?_⟩
    have k46 : KeepT H4 H6 := (KeepT.but hy4 U5).trans (.but hy5 U6)
    have k56 : KeepT H5 H6 := .but hy5 U6
    have hl6 : H6 l = some (.lst us) := U6 _ _ nlb (U5 _ _ nlb (s4 _ _ hl))
    have s16 : Same H1 H6 := fresh_but (s3.trans s4) nb (U5.trans U6)
    have hW6 : WksIn H6 Ws us := ⟨hW.1, fun i v e => let ⟨W, x, y⟩ := hW.2 i v e; ⟨W, x, WkIn.keep (k46) (y.same s4)⟩⟩
    have lA := hA2.len
    have lB := hB2.len
    have e3 : ifsN 3 = 22 := by decide
    have e2 : ifsN 2 = 10 := by decide
    refine catA_of (k56 _ _ hA1) hB1 (by omega) fun pq H7 s7 hpq => ?_
    refine ⟨(by show 5 ≤ sizeLine; decide), fun p8 np8 => ?_⟩
    have s8 := same_new np8 (.tup [V.str "work", .str "f", .ref p4, .int 0, .ref pq])
    have h8 := upd_same (H := H7) (a := p8) (o := .tup [V.str "work", .str "f", .ref p4, .int 0, .ref pq])
    generalize upd H7 p8 (.tup [V.str "work", .str "f", .ref p4, .int 0, .ref pq]) = H8 at s8 h8
    have s78 := s7.trans s8
    have hl8 := s78 _ _ hl6
    have lus := hW.1
    refine ⟨l, us, _, rfl, rfl, hl8, by omega, ?_⟩
    have t9 : KeepT H8 (upd H8 l (.lst (us ++ [V.ref p8]))) := fun x xs z => tup_updl hl8 z
    have h9 := upd_same (H := H8) (a := l) (o := .lst (us ++ [V.ref p8]))
    have s19 : Same H1 (upd H8 l (.lst (us ++ [V.ref p8]))) := fun x o z => by
      rw [upd_ne (ne_of_none z (s2.free nl))]
      exact s78 _ _ (s16 _ _ z)
    have all9 : ∀ v ∈ us ++ [V.ref p8], WkR (upd H8 l (.lst (us ++ [V.ref p8]))) v := by
      intro v hv
      rcases List.mem_append.mp hv with hv | hv
      · obtain ⟨i, hi, e⟩ := List.mem_iff_getElem.mp hv
        obtain ⟨W, x, y⟩ := hW6.2 i v (by rw [List.getElem?_eq_getElem hi, e])
        have o := ok.each W (List.mem_of_getElem? x)
        exact ⟨W, 3, Nat.le_refl _, WkIn.keep t9 (y.same s78), o.rows, o.count⟩
      · rw [List.mem_singleton.mp hv]
        refine ⟨⟨"f", [], 0, A'.app B'⟩, 3, Nat.le_refl _, ⟨p8, p4, pq, _, rfl, t9 _ _ h8, t9 _ _ (s78 _ _ (k46 _ _ h4)), t9 _ _ (s8 _ _ hpq), RsIn.keep t9 (RsIn.app (hB2.same s78) (RsIn.keep (k56.trans (.of s78)) hA2))⟩, Rs.app_ok (Rs.ok_up (by decide) hB3) hA3, ?_⟩
        rw [Rs.app_count]
        omega
    generalize upd H8 l (.lst (us ++ [V.ref p8])) = H9 at t9 h9 s19 all9
    -- all are right
    refine ⟨_, rfl, _, rfl, _, rfl, l, _, rfl, SqL.of h9, fun c1 nc1 => ?_⟩
    have sc := same_new nc1 (.lst (cutV (us ++ [V.ref p8]) none (some 1)))
    have hc := upd_same (H := H9) (a := c1) (o := .lst (cutV (us ++ [V.ref p8]) none (some 1)))
    have cm : ∀ v ∈ cutV (us ++ [V.ref p8]) none (some 1), v ∈ us ++ [V.ref p8] := fun v hv => List.mem_of_mem_drop (List.mem_of_mem_take hv)
    have cl : (cutV (us ++ [V.ref p8]) none (some 1)).length ≤ us.length + 1 := by
      unfold cutV
      rw [List.length_take, List.length_drop, List.length_append, List.length_singleton]
      omega
    generalize cutV (us ++ [V.ref p8]) none (some 1) = cu at sc hc cm cl
    generalize upd H9 c1 (.lst cu) = Hc at sc hc
    refine ⟨l, c1, _, _, rfl, rfl, sc _ _ h9, hc, by rw [List.length_append]; show _ + 1 + _ ≤ _; omega, fun c2 nc2 => ?_⟩
    have sd := same_new nc2 (.lst ((us ++ [V.ref p8]) ++ cu))
    have hd := upd_same (H := Hc) (a := c2) (o := .lst ((us ++ [V.ref p8]) ++ cu))
    have alld : ∀ v ∈ (us ++ [V.ref p8]) ++ cu, WkR H9 v := fun v hv => by
      rcases List.mem_append.mp hv with hv | hv
      · exact all9 v hv
      · exact all9 v (cm v hv)
    have ld : ((us ++ [V.ref p8]) ++ cu).length ≤ 100 := by rw [List.length_append, List.length_append, List.length_singleton]; omega
    generalize (us ++ [V.ref p8]) ++ cu = vu at sd hd alld ld
    generalize upd Hc c2 (.lst vu) = Hd at sd hd
    have s9d := sc.trans sd
    refine ⟨c2, rfl, ⟨_, SqL.of hd⟩, ?_⟩
    intro D hD
    refine lc_list (K := K) (a := c2) (xs := vu) (fun j H' => H' D = some (.lst ((List.replicate j true).map V.bl)) ∧ Same Hd H') ⟨upd_same, same_new hD _⟩ (fun j H' _ h => SqL.of (h.2 _ _ hd)) ?_ ?_
    · rintro j v Hj hv ⟨hDj, sj⟩
      have hj : j < vu.length := (List.getElem?_eq_some_iff.mp hv).1
      obtain ⟨W, n, n3, wi, wo, wc⟩ := alld v (List.mem_of_getElem? hv)
      refine ⟨rfl, ?_⟩
      refine ⟨_, rfl, v, W, n, n3, rfl, wi.same (s9d.trans sj), wo, wc, fun H' s' => ?_⟩
      refine ⟨_, s' _ _ hDj, by rw [List.length_map, List.length_replicate]; omega, ?_, ?_⟩
      · rw [upd_same, List.replicate_succ', List.map_append]
        rfl
      · intro b o z
        rw [upd_ne (ne_of_none z hD)]
        exact s' _ _ (sj _ _ z)
    · rintro Hj ⟨hDj, sj⟩
      refine ⟨D, _, rfl, SqL.of hDj, _, rfl, ?_⟩
      rw [all_true]
      exact ⟨_, _, _, rfl, sH.trans (s19.trans (s9d.trans sj))⟩
  · rintro σ H1 ⟨y1, y2, y3, rfl, sH⟩
    refine ⟨Nat.zero_le _, fun p1 np1 => ⟨Nat.zero_le _, fun p2 np2 => ⟨(by show 5 ≤ sizeLine; decide), fun p3 np3 => ?_⟩⟩⟩
    have t1 := same_new np1 (.tup [])
    have t2 := same_new np2 (.tup [])
    have t3 := same_new np3 (.tup [V.str "work", .str "f", .ref p1, .int 0, .ref p2])
    exact ⟨_, ⟨"f", [], 0, .nil⟩, 3, Nat.le_refl _, rfl, ⟨p3, p1, p2, [], rfl, upd_same, (t2.trans t3) _ _ upd_same, t3 _ _ upd_same, rfl⟩, trivial, Nat.zero_le _, fun H' _ => q H'⟩
end
end SH

set_option Elab.async false
set_option linter.all false
set_option maxRecDepth 100000
namespace SH
open PySem L2
set_option maxHeartbeats 8000000
theorem all_mk {l : PySem.W.OpenLaw} {w : World} {K : PySem.W.Frag} {h : Heap} {mg : Str → Option Value} {fa f_code_of f_rows_code f_if_code f_Lbag f_Ltake f_Lkept f_Lnames f_Lnumber f_Ltree f_Lrow f_Lrows f_Lworks f_Lcode f_Lifs f_Lis_right f_law : Addr} (X : K.In h) (G : h.Ns mainGlobals mg) (hfa : mg "law" = some (.ref fa))
    {od_code_of od_rows_code od_if_code od_Lbag od_Ltake od_Lkept od_Lnames od_Lnumber od_Ltree od_Lrow od_Lrows od_Lworks od_Lcode od_Lifs od_Lis_right od_law an_code_of an_rows_code an_if_code an_Lbag an_Ltake an_Lkept an_Lnames an_Lnumber an_Ltree an_Lrow an_Lrows an_Lworks an_Lcode an_Lifs an_Lis_right an_law : Option Addr} {sl_code_of sl_rows_code sl_if_code sl_Lbag sl_Ltake sl_Lkept sl_Lnames sl_Lnumber sl_Ltree sl_Lrow sl_Lrows sl_Lworks sl_Lcode sl_Lifs sl_Lis_right sl_law : Array (Option Value)} {oc_code_of oc_rows_code oc_if_code oc_Lbag oc_Ltake oc_Lkept oc_Lnames oc_Lnumber oc_Ltree oc_Lrow oc_Lrows oc_Lworks oc_Lcode oc_Lifs oc_Lis_right oc_law kV_code_of kV_rows_code kV_if_code kV_Lbag kV_Ltake kV_Lkept kV_Lnames kV_Lnumber kV_Ltree kV_Lrow kV_Lrows kV_Lworks kV_Lcode kV_Lifs kV_Lis_right kV_law dc_code_of dc_rows_code dc_if_code dc_Lbag dc_Ltake dc_Lkept dc_Lnames dc_Lnumber dc_Ltree dc_Lrow dc_Lrows dc_Lworks dc_Lcode dc_Lifs dc_Lis_right dc_law pm_code_of pm_rows_code pm_if_code pm_Lbag pm_Ltake pm_Lkept pm_Lnames pm_Lnumber pm_Ltree pm_Lrow pm_Lrows pm_Lworks pm_Lcode pm_Lifs pm_Lis_right pm_law cd_code_of cd_rows_code cd_if_code cd_Lbag cd_Ltake cd_Lkept cd_Lnames cd_Lnumber cd_Ltree cd_Lrow cd_Lrows cd_Lworks cd_Lcode cd_Lifs cd_Lis_right cd_law ct_code_of ct_rows_code ct_if_code ct_Lbag ct_Ltake ct_Lkept ct_Lnames ct_Lnumber ct_Ltree ct_Lrow ct_Lrows ct_Lworks ct_Lcode ct_Lifs ct_Lis_right ct_law : Value}
    (a_code_of : PySem.W.nsIn K mainGlobals "code_of" = some (some (.ref f_code_of))) (l_code_of : K.lookup f_code_of = some ⟨oc_code_of, od_code_of, .func (PySem.W.fnOf "code_of" "code_of" (defArgs sCodeOf) (defBody sCodeOf) (defScope sCodeOf) .none kV_code_of dc_code_of pm_code_of an_code_of cd_code_of ct_code_of), sl_code_of⟩) (c_code_of : PySem.W.codeIn K cd_code_of "code_of" = true) (k_code_of : PySem.W.keepIn K (.ref f_code_of) = true)
    (a_rows_code : PySem.W.nsIn K mainGlobals "rows_code" = some (some (.ref f_rows_code))) (l_rows_code : K.lookup f_rows_code = some ⟨oc_rows_code, od_rows_code, .func (PySem.W.fnOf "rows_code" "rows_code" (defArgs sRowsCode) (defBody sRowsCode) (defScope sRowsCode) .none kV_rows_code dc_rows_code pm_rows_code an_rows_code cd_rows_code ct_rows_code), sl_rows_code⟩) (c_rows_code : PySem.W.codeIn K cd_rows_code "rows_code" = true) (k_rows_code : PySem.W.keepIn K (.ref f_rows_code) = true)
    (a_if_code : PySem.W.nsIn K mainGlobals "if_code" = some (some (.ref f_if_code))) (l_if_code : K.lookup f_if_code = some ⟨oc_if_code, od_if_code, .func (PySem.W.fnOf "if_code" "if_code" (defArgs sIfCode) (defBody sIfCode) (defScope sIfCode) .none kV_if_code dc_if_code pm_if_code an_if_code cd_if_code ct_if_code), sl_if_code⟩) (c_if_code : PySem.W.codeIn K cd_if_code "if_code" = true) (k_if_code : PySem.W.keepIn K (.ref f_if_code) = true)
    (a_Lbag : PySem.W.nsIn K mainGlobals "_law_bag" = some (some (.ref f_Lbag))) (l_Lbag : K.lookup f_Lbag = some ⟨oc_Lbag, od_Lbag, .func (PySem.W.fnOf "_law_bag" "_law_bag" (defArgs sBag) (defBody sBag) (defScope sBag) .none kV_Lbag dc_Lbag pm_Lbag an_Lbag cd_Lbag ct_Lbag), sl_Lbag⟩) (c_Lbag : PySem.W.codeIn K cd_Lbag "_law_bag" = true) (k_Lbag : PySem.W.keepIn K (.ref f_Lbag) = true)
    (a_Ltake : PySem.W.nsIn K mainGlobals "_law_take" = some (some (.ref f_Ltake))) (l_Ltake : K.lookup f_Ltake = some ⟨oc_Ltake, od_Ltake, .func (PySem.W.fnOf "_law_take" "_law_take" (defArgs sTake) (defBody sTake) (defScope sTake) .none kV_Ltake dc_Ltake pm_Ltake an_Ltake cd_Ltake ct_Ltake), sl_Ltake⟩) (c_Ltake : PySem.W.codeIn K cd_Ltake "_law_take" = true) (k_Ltake : PySem.W.keepIn K (.ref f_Ltake) = true)
    (a_Lkept : PySem.W.nsIn K mainGlobals "_law_kept" = some (some (.ref f_Lkept))) (l_Lkept : K.lookup f_Lkept = some ⟨oc_Lkept, od_Lkept, .func (PySem.W.fnOf "_law_kept" "_law_kept" (defArgs sKept) (defBody sKept) (defScope sKept) .none kV_Lkept dc_Lkept pm_Lkept an_Lkept cd_Lkept ct_Lkept), sl_Lkept⟩) (c_Lkept : PySem.W.codeIn K cd_Lkept "_law_kept" = true) (k_Lkept : PySem.W.keepIn K (.ref f_Lkept) = true)
    (a_Lnames : PySem.W.nsIn K mainGlobals "_law_names" = some (some (.ref f_Lnames))) (l_Lnames : K.lookup f_Lnames = some ⟨oc_Lnames, od_Lnames, .func (PySem.W.fnOf "_law_names" "_law_names" (defArgs sNames) (defBody sNames) (defScope sNames) .none kV_Lnames dc_Lnames pm_Lnames an_Lnames cd_Lnames ct_Lnames), sl_Lnames⟩) (c_Lnames : PySem.W.codeIn K cd_Lnames "_law_names" = true) (k_Lnames : PySem.W.keepIn K (.ref f_Lnames) = true)
    (a_Lnumber : PySem.W.nsIn K mainGlobals "_law_number" = some (some (.ref f_Lnumber))) (l_Lnumber : K.lookup f_Lnumber = some ⟨oc_Lnumber, od_Lnumber, .func (PySem.W.fnOf "_law_number" "_law_number" (defArgs sNumber) (defBody sNumber) (defScope sNumber) .none kV_Lnumber dc_Lnumber pm_Lnumber an_Lnumber cd_Lnumber ct_Lnumber), sl_Lnumber⟩) (c_Lnumber : PySem.W.codeIn K cd_Lnumber "_law_number" = true) (k_Lnumber : PySem.W.keepIn K (.ref f_Lnumber) = true)
    (a_Ltree : PySem.W.nsIn K mainGlobals "_law_tree" = some (some (.ref f_Ltree))) (l_Ltree : K.lookup f_Ltree = some ⟨oc_Ltree, od_Ltree, .func (PySem.W.fnOf "_law_tree" "_law_tree" (defArgs sTree) (defBody sTree) (defScope sTree) .none kV_Ltree dc_Ltree pm_Ltree an_Ltree cd_Ltree ct_Ltree), sl_Ltree⟩) (c_Ltree : PySem.W.codeIn K cd_Ltree "_law_tree" = true) (k_Ltree : PySem.W.keepIn K (.ref f_Ltree) = true)
    (a_Lrow : PySem.W.nsIn K mainGlobals "_law_row" = some (some (.ref f_Lrow))) (l_Lrow : K.lookup f_Lrow = some ⟨oc_Lrow, od_Lrow, .func (PySem.W.fnOf "_law_row" "_law_row" (defArgs sRow) (defBody sRow) (defScope sRow) .none kV_Lrow dc_Lrow pm_Lrow an_Lrow cd_Lrow ct_Lrow), sl_Lrow⟩) (c_Lrow : PySem.W.codeIn K cd_Lrow "_law_row" = true) (k_Lrow : PySem.W.keepIn K (.ref f_Lrow) = true)
    (a_Lrows : PySem.W.nsIn K mainGlobals "_law_rows" = some (some (.ref f_Lrows))) (l_Lrows : K.lookup f_Lrows = some ⟨oc_Lrows, od_Lrows, .func (PySem.W.fnOf "_law_rows" "_law_rows" (defArgs sRows) (defBody sRows) (defScope sRows) .none kV_Lrows dc_Lrows pm_Lrows an_Lrows cd_Lrows ct_Lrows), sl_Lrows⟩) (c_Lrows : PySem.W.codeIn K cd_Lrows "_law_rows" = true) (k_Lrows : PySem.W.keepIn K (.ref f_Lrows) = true)
    (a_Lworks : PySem.W.nsIn K mainGlobals "_law_works" = some (some (.ref f_Lworks))) (l_Lworks : K.lookup f_Lworks = some ⟨oc_Lworks, od_Lworks, .func (PySem.W.fnOf "_law_works" "_law_works" (defArgs sWorks) (defBody sWorks) (defScope sWorks) .none kV_Lworks dc_Lworks pm_Lworks an_Lworks cd_Lworks ct_Lworks), sl_Lworks⟩) (c_Lworks : PySem.W.codeIn K cd_Lworks "_law_works" = true) (k_Lworks : PySem.W.keepIn K (.ref f_Lworks) = true)
    (a_Lcode : PySem.W.nsIn K mainGlobals "_law_code" = some (some (.ref f_Lcode))) (l_Lcode : K.lookup f_Lcode = some ⟨oc_Lcode, od_Lcode, .func (PySem.W.fnOf "_law_code" "_law_code" (defArgs sLcode) (defBody sLcode) (defScope sLcode) .none kV_Lcode dc_Lcode pm_Lcode an_Lcode cd_Lcode ct_Lcode), sl_Lcode⟩) (c_Lcode : PySem.W.codeIn K cd_Lcode "_law_code" = true) (k_Lcode : PySem.W.keepIn K (.ref f_Lcode) = true)
    (a_Lifs : PySem.W.nsIn K mainGlobals "_law_ifs" = some (some (.ref f_Lifs))) (l_Lifs : K.lookup f_Lifs = some ⟨oc_Lifs, od_Lifs, .func (PySem.W.fnOf "_law_ifs" "_law_ifs" (defArgs sLifs) (defBody sLifs) (defScope sLifs) .none kV_Lifs dc_Lifs pm_Lifs an_Lifs cd_Lifs ct_Lifs), sl_Lifs⟩) (c_Lifs : PySem.W.codeIn K cd_Lifs "_law_ifs" = true) (k_Lifs : PySem.W.keepIn K (.ref f_Lifs) = true)
    (a_Lis_right : PySem.W.nsIn K mainGlobals "_law_is_right" = some (some (.ref f_Lis_right))) (l_Lis_right : K.lookup f_Lis_right = some ⟨oc_Lis_right, od_Lis_right, .func (PySem.W.fnOf "_law_is_right" "_law_is_right" (defArgs sLright) (defBody sLright) (defScope sLright) .none kV_Lis_right dc_Lis_right pm_Lis_right an_Lis_right cd_Lis_right ct_Lis_right), sl_Lis_right⟩) (c_Lis_right : PySem.W.codeIn K cd_Lis_right "_law_is_right" = true) (k_Lis_right : PySem.W.keepIn K (.ref f_Lis_right) = true)
    (a_law : PySem.W.nsIn K mainGlobals "law" = some (some (.ref f_law))) (l_law : K.lookup f_law = some ⟨oc_law, od_law, .func (PySem.W.fnOf "law" "law" (defArgs sLaw) (defBody sLaw) (defScope sLaw) .none kV_law dc_law pm_law an_law cd_law ct_law), sl_law⟩) (c_law : PySem.W.codeIn K cd_law "law" = true) (k_law : PySem.W.keepIn K (.ref f_law) = true)
    (z_len : PySem.W.nsIn K mainGlobals "len" = some none)
    (z_abs : PySem.W.nsIn K mainGlobals "abs" = some none)
    (z_int : PySem.W.nsIn K mainGlobals "int" = some none)
    (z_str : PySem.W.nsIn K mainGlobals "str" = some none)
    (z_range : PySem.W.nsIn K mainGlobals "range" = some none)
    (z_max : PySem.W.nsIn K mainGlobals "max" = some none)
    (z_min : PySem.W.nsIn K mainGlobals "min" = some none)
    (z_isinstance : PySem.W.nsIn K mainGlobals "isinstance" = some none)
    (z_all : PySem.W.nsIn K mainGlobals "all" = some none)
    (z_tuple : PySem.W.nsIn K mainGlobals "tuple" = some none)
    (z_list : PySem.W.nsIn K mainGlobals "list" = some none)
    (z_repr : PySem.W.nsIn K mainGlobals "repr" = some none)
    
    : ∃ fd : FuncData, (∀ (s : Shared) (v : Value), BindsTo s fd ⟨[v], []⟩ [("_law_script", v)]) ∧ ∀ base : Heap, K.In base → base.Ns mainGlobals mg → FnG l.prog w K mg base 18 fa fd ["_law_script"] (spLaw K) := by
  have e := hfa.symm.trans (PySem.W.mg_of X G a_law)
  cases e
  have F_code_of := fun_mk (st := sCodeOf) l_code_of c_code_of k_code_of
  have b_code_of := F_code_of.binds (ps := ["work"]) fun _ _ _ _ _ _ us hl => match us, hl with | [_], _ => rfl
  have m_code_of := PySem.W.mg_of X G a_code_of
  have F_rows_code := fun_mk (st := sRowsCode) l_rows_code c_rows_code k_rows_code
  have b_rows_code := F_rows_code.binds (ps := ["rows", "place"]) fun _ _ _ _ _ _ us hl => match us, hl with | [_, _], _ => rfl
  have m_rows_code := PySem.W.mg_of X G a_rows_code
  have F_if_code := fun_mk (st := sIfCode) l_if_code c_if_code k_if_code
  have b_if_code := F_if_code.binds (ps := ["row", "place"]) fun _ _ _ _ _ _ us hl => match us, hl with | [_, _], _ => rfl
  have m_if_code := PySem.W.mg_of X G a_if_code
  have F_Lbag := fun_mk (st := sBag) l_Lbag c_Lbag k_Lbag
  have b_Lbag := F_Lbag.binds (ps := ["_law_script", "_law_k"]) fun _ _ _ _ _ _ us hl => match us, hl with | [_, _], _ => rfl
  have m_Lbag := PySem.W.mg_of X G a_Lbag
  have F_Ltake := fun_mk (st := sTake) l_Ltake c_Ltake k_Ltake
  have b_Ltake := F_Ltake.binds (ps := ["_law_bag_here", "_law_many"]) fun _ _ _ _ _ _ us hl => match us, hl with | [_, _], _ => rfl
  have m_Ltake := PySem.W.mg_of X G a_Ltake
  have F_Lkept := fun_mk (st := sKept) l_Lkept c_Lkept k_Lkept
  have b_Lkept := F_Lkept.binds (ps := []) fun _ _ _ _ _ _ us hl => match us, hl with | [], _ => rfl
  have m_Lkept := PySem.W.mg_of X G a_Lkept
  have F_Lnames := fun_mk (st := sNames) l_Lnames c_Lnames k_Lnames
  have b_Lnames := F_Lnames.binds (ps := ["_law_bag_here", "_law_many"]) fun _ _ _ _ _ _ us hl => match us, hl with | [_, _], _ => rfl
  have m_Lnames := PySem.W.mg_of X G a_Lnames
  have F_Lnumber := fun_mk (st := sNumber) l_Lnumber c_Lnumber k_Lnumber
  have b_Lnumber := F_Lnumber.binds (ps := ["_law_bag_here"]) fun _ _ _ _ _ _ us hl => match us, hl with | [_], _ => rfl
  have m_Lnumber := PySem.W.mg_of X G a_Lnumber
  have F_Ltree := fun_mk (st := sTree) l_Ltree c_Ltree k_Ltree
  have b_Ltree := F_Ltree.binds (ps := ["_law_bag_here", "_law_names_here", "_law_deep"]) fun _ _ _ _ _ _ us hl => match us, hl with | [_, _, _], _ => rfl
  have m_Ltree := PySem.W.mg_of X G a_Ltree
  have F_Lrow := fun_mk (st := sRow) l_Lrow c_Lrow k_Lrow
  have b_Lrow := F_Lrow.binds (ps := ["_law_bag_here", "_law_state", "_law_nested"]) fun _ _ _ _ _ _ us hl => match us, hl with | [_, _, _], _ => rfl
  have m_Lrow := PySem.W.mg_of X G a_Lrow
  have F_Lrows := fun_mk (st := sRows) l_Lrows c_Lrows k_Lrows
  have b_Lrows := F_Lrows.binds (ps := ["_law_bag_here", "_law_state", "_law_nested"]) fun _ _ _ _ _ _ us hl => match us, hl with | [_, _, _], _ => rfl
  have m_Lrows := PySem.W.mg_of X G a_Lrows
  have F_Lworks := fun_mk (st := sWorks) l_Lworks c_Lworks k_Lworks
  have b_Lworks := F_Lworks.binds (ps := ["_law_bag_here", "_law_most"]) fun _ _ _ _ _ _ us hl => match us, hl with | [_, _], _ => rfl
  have m_Lworks := PySem.W.mg_of X G a_Lworks
  have F_Lcode := fun_mk (st := sLcode) l_Lcode c_Lcode k_Lcode
  have b_Lcode := F_Lcode.binds (ps := ["_law_rows_here", "_law_at"]) fun _ _ _ _ _ _ us hl => match us, hl with | [_, _], _ => rfl
  have m_Lcode := PySem.W.mg_of X G a_Lcode
  have F_Lifs := fun_mk (st := sLifs) l_Lifs c_Lifs k_Lifs
  have b_Lifs := F_Lifs.binds (ps := ["_law_bag_here", "_law_deep"]) fun _ _ _ _ _ _ us hl => match us, hl with | [_, _], _ => rfl
  have m_Lifs := PySem.W.mg_of X G a_Lifs
  have F_Lis_right := fun_mk (st := sLright) l_Lis_right c_Lis_right k_Lis_right
  have b_Lis_right := F_Lis_right.binds (ps := ["_law_work"]) fun _ _ _ _ _ _ us hl => match us, hl with | [_], _ => rfl
  have m_Lis_right := PySem.W.mg_of X G a_Lis_right
  have F_law := fun_mk (st := sLaw) l_law c_law k_law
  have m_law := PySem.W.mg_of X G a_law
  have T : Bi mg := ⟨PySem.W.mg_none_of X G z_len, PySem.W.mg_none_of X G z_abs, PySem.W.mg_none_of X G z_int, PySem.W.mg_none_of X G z_str, PySem.W.mg_none_of X G z_range, PySem.W.mg_none_of X G z_max, PySem.W.mg_none_of X G z_min, PySem.W.mg_none_of X G z_isinstance, PySem.W.mg_none_of X G z_all⟩
  have q_tuple := PySem.W.mg_none_of X G z_tuple
  have q_list := PySem.W.mg_none_of X G z_list
  have q_repr := PySem.W.mg_none_of X G z_repr
  refine ⟨PySem.W.fnOf "law" "law" (defArgs sLaw) (defBody sLaw) (defScope sLaw) .none kV_law dc_law pm_law an_law cd_law ct_law, fun s v => .of_eq rfl, fun base _ _ => ?_⟩
  have TK : Fk l.prog w K mg base 1 "_law_take" f_Ltake _ ["_law_bag_here", "_law_many"] spTake := ⟨ok_take F_Ltake, m_Ltake, k_Ltake, b_Ltake⟩
  have KP : Fk l.prog w K mg base 1 "_law_kept" f_Lkept _ [] spKept := ⟨ok_kept F_Lkept, m_Lkept, k_Lkept, b_Lkept⟩
  have NB : Fk l.prog w K mg base 2 "_law_number" f_Lnumber _ ["_law_bag_here"] spNumber := ⟨ok_number F_Lnumber TK T, m_Lnumber, k_Lnumber, b_Lnumber⟩
  have NM : Fk l.prog w K mg base 2 "_law_names" f_Lnames _ ["_law_bag_here", "_law_many"] spNames := ⟨ok_names F_Lnames TK KP T, m_Lnames, k_Lnames, b_Lnames⟩
  have BG : Fk l.prog w K mg base 1 "_law_bag" f_Lbag _ ["_law_script", "_law_k"] (spBag K) := ⟨ok_bag F_Lbag T, m_Lbag, k_Lbag, b_Lbag⟩
  have TR : Fk l.prog w K mg base 8 "_law_tree" f_Ltree _ ["_law_bag_here", "_law_names_here", "_law_deep"] (spTrees 6) := ⟨trees_all F_Ltree m_Ltree b_Ltree TK NB T 6, m_Ltree, k_Ltree, b_Ltree⟩
  have RW16 : Fk l.prog w K mg base 16 "_law_rows" f_Lrows _ ["_law_bag_here", "_law_state", "_law_nested"] (spRows 3) := ⟨rowsAll F_Lrow m_Lrow b_Lrow F_Lrows m_Lrows b_Lrows TK TR T q_tuple 3, m_Lrows, k_Lrows, b_Lrows⟩
  have WS : Fk l.prog w K mg base 17 "_law_works" f_Lworks _ ["_law_bag_here", "_law_most"] spWorks := ⟨ok_works F_Lworks TK NM RW16 T q_tuple, m_Lworks, k_Lworks, b_Lworks⟩
  have RC : Fk l.prog w K mg base 8 "rows_code" f_rows_code _ ["rows", "place"] (spRowsCode K 3) := ⟨codesAll F_rows_code m_rows_code b_rows_code F_if_code m_if_code b_if_code T 3, m_rows_code, k_rows_code, b_rows_code⟩
  have CO : Fk l.prog w K mg base 9 "code_of" f_code_of _ ["work"] (spCodeOf K) := ⟨ok_codeOf F_code_of RC, m_code_of, k_code_of, b_code_of⟩
  have LC : Fk l.prog w K mg base 4 "_law_code" f_Lcode _ ["_law_rows_here", "_law_at"] (spRowsCode K 3) := ⟨lcodesAll F_Lcode m_Lcode b_Lcode T 3 (by decide), m_Lcode, k_Lcode, b_Lcode⟩
  have IF : Fk l.prog w K mg base 5 "_law_ifs" f_Lifs _ ["_law_bag_here", "_law_deep"] (spLifss 3) := ⟨lifss F_Lifs m_Lifs b_Lifs TK, m_Lifs, k_Lifs, b_Lifs⟩
  have IR : FkG l.prog w K mg base 10 "_law_is_right" f_Lis_right _ ["_law_work"] spLright := ⟨ok_lright F_Lis_right LC CO T q_list q_repr, m_Lis_right, k_Lis_right, b_Lis_right⟩
  exact ok_law F_law BG WS IF IR T
theorem walk {l : PySem.W.OpenLaw} {q : Program} {loose : List Str} {XP : (Str → Option Value) → Heap → Prop} {YP : World → Heap → Prop} {d : DefRec} {K : Params → PySem.W.Frag} (hn : l.most = some 63) (hdf : d.params.defaults = [])
    (hY : ∀ (w : World) (h : Heap), YP w h → (K w.params).In h)
    (F : ∀ (w : World) (mg : Str → Option Value) (fa : Addr) (h : Heap), (K w.params).In h → h.Ns mainGlobals mg → mg d.name = some (.ref fa) →
      ∃ fd : FuncData, (∀ (s : Shared) (u : Value), BindsTo s fd ⟨[u], []⟩ [("_law_script", u)]) ∧ ∀ base : Heap, (K w.params).In base → base.Ns mainGlobals mg → FnG l.prog w (K w.params) mg base 18 fa fd ["_law_script"] (spLaw (K w.params))) :
    PySem.W.WalkO q loose XP YP l.row.toRowW d [] (fun f vs => PySem.call f vs) :=
  walk_G (k := 18) (sp := spLaw) hn hdf ⟨rfl, by decide, by decide⟩ hY F fun K H a ns hl hS => ⟨a, ns, rfl, hS, hl, fun _ => rfl⟩
end SH
open PySem PySem.W PyProof.Rows
set_option maxRecDepth 100000 in
set_option maxHeartbeats 0 in
theorem PySem.Challenge.cw_stealhall_k27_code_laid_out_holds : PySem.Challenge.rw_stealhall_k27_code_laid_out.Holds := by
  w_on; o_law; k_head; (case hw => w_witness2)
  k_fill
  refine SH.walk (l := PySem.Challenge.rw_stealhall_k27_code_laid_out) rfl rfl (fun w h Y => PySem.W.kIn_of Y) ?F
  case F =>
    intro w mg fa h KX G hmg
    refine' SH.all_mk KX G hmg ?a_code_of ?l_code_of ?c_code_of ?k_code_of ?a_rows_code ?l_rows_code ?c_rows_code ?k_rows_code ?a_if_code ?l_if_code ?c_if_code ?k_if_code ?a_Lbag ?l_Lbag ?c_Lbag ?k_Lbag ?a_Ltake ?l_Ltake ?c_Ltake ?k_Ltake ?a_Lkept ?l_Lkept ?c_Lkept ?k_Lkept ?a_Lnames ?l_Lnames ?c_Lnames ?k_Lnames ?a_Lnumber ?l_Lnumber ?c_Lnumber ?k_Lnumber ?a_Ltree ?l_Ltree ?c_Ltree ?k_Ltree ?a_Lrow ?l_Lrow ?c_Lrow ?k_Lrow ?a_Lrows ?l_Lrows ?c_Lrows ?k_Lrows ?a_Lworks ?l_Lworks ?c_Lworks ?k_Lworks ?a_Lcode ?l_Lcode ?c_Lcode ?k_Lcode ?a_Lifs ?l_Lifs ?c_Lifs ?k_Lifs ?a_Lis_right ?l_Lis_right ?c_Lis_right ?k_Lis_right ?a_law ?l_law ?c_law ?k_law ?z_len ?z_abs ?z_int ?z_str ?z_range ?z_max ?z_min ?z_isinstance ?z_all ?z_tuple ?z_list ?z_repr
    (case a_code_of => k_is)
    (case l_code_of => k_is)
    (case c_code_of => k_is)
    (case k_code_of => k_is)
    (case a_rows_code => k_is)
    (case l_rows_code => k_is)
    (case c_rows_code => k_is)
    (case k_rows_code => k_is)
    (case a_if_code => k_is)
    (case l_if_code => k_is)
    (case c_if_code => k_is)
    (case k_if_code => k_is)
    (case a_Lbag => k_is)
    (case l_Lbag => k_is)
    (case c_Lbag => k_is)
    (case k_Lbag => k_is)
    (case a_Ltake => k_is)
    (case l_Ltake => k_is)
    (case c_Ltake => k_is)
    (case k_Ltake => k_is)
    (case a_Lkept => k_is)
    (case l_Lkept => k_is)
    (case c_Lkept => k_is)
    (case k_Lkept => k_is)
    (case a_Lnames => k_is)
    (case l_Lnames => k_is)
    (case c_Lnames => k_is)
    (case k_Lnames => k_is)
    (case a_Lnumber => k_is)
    (case l_Lnumber => k_is)
    (case c_Lnumber => k_is)
    (case k_Lnumber => k_is)
    (case a_Ltree => k_is)
    (case l_Ltree => k_is)
    (case c_Ltree => k_is)
    (case k_Ltree => k_is)
    (case a_Lrow => k_is)
    (case l_Lrow => k_is)
    (case c_Lrow => k_is)
    (case k_Lrow => k_is)
    (case a_Lrows => k_is)
    (case l_Lrows => k_is)
    (case c_Lrows => k_is)
    (case k_Lrows => k_is)
    (case a_Lworks => k_is)
    (case l_Lworks => k_is)
    (case c_Lworks => k_is)
    (case k_Lworks => k_is)
    (case a_Lcode => k_is)
    (case l_Lcode => k_is)
    (case c_Lcode => k_is)
    (case k_Lcode => k_is)
    (case a_Lifs => k_is)
    (case l_Lifs => k_is)
    (case c_Lifs => k_is)
    (case k_Lifs => k_is)
    (case a_Lis_right => k_is)
    (case l_Lis_right => k_is)
    (case c_Lis_right => k_is)
    (case k_Lis_right => k_is)
    (case a_law => k_is)
    (case l_law => k_is)
    (case c_law => k_is)
    (case k_law => k_is)
    (case z_len => k_is)
    (case z_abs => k_is)
    (case z_int => k_is)
    (case z_str => k_is)
    (case z_range => k_is)
    (case z_max => k_is)
    (case z_min => k_is)
    (case z_isinstance => k_is)
    (case z_all => k_is)
    (case z_tuple => k_is)
    (case z_list => k_is)
    (case z_repr => k_is)
