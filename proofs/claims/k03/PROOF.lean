import PyProof.Rows.All
import Wide.All
import OpenK.AllK
import Wide.FinOn
import PyProof.TypeEq
import PyProof.InstEq
import HandS.ForMost
import HandS.More
import HandS.Style
import HandS.IsInst
import HandS.Codes
import HandS.TupAny
import HandS.Zip
import HandS.Walk
import HandS.TryMany
import HandS.ExcIs
import HandS.ExcOwn
import HandS.WordsExc
import PyProof.NeKinds
import HandS.Hot
import HandS.ExcCtx
import HandS.HotCalls
import PySem.Challenge.RW_groupmarks_k03_what_is_refused
set_option Elab.async false
set_option linter.all false
set_option maxRecDepth 100000
set_option maxHeartbeats 4000000
namespace Gm
open PySem PySem.Spec PyProof.Rows L2

/-! ### `type(x) != tuple`, of two built-in types -/
theorem slot_type_ne : Slot "type" (cmpInfo .NotEq).2.1 "object.__ne__" :=
  .of (owner := "object") (n := "__ne__") (by rw [typeLookup_type, builtinLookup_eq_fast]; kernel_rfl) (by decide +kernel) (by decide +kernel) (by decide +kernel)
    (by first | exact .inl (by decide +kernel) | exact .inr (by decide +kernel)) (by rw [isSubtype_type]; kernel_rfl)
theorem slot_type_ne_refl : Slot "type" (cmpInfo .NotEq).2.2 "object.__ne__" :=
  .of (owner := "object") (n := "__ne__") (by rw [typeLookup_type, builtinLookup_eq_fast]; kernel_rfl) (by decide +kernel) (by decide +kernel) (by decide +kernel)
    (by first | exact .inl (by decide +kernel) | exact .inr (by decide +kernel)) (by rw [isSubtype_type]; kernel_rfl)
section
variable {prog : Program} {w : World} {A : Around} {E : Value → Shared → Prop} {s : Shared}
theorem ne_entry_same {X : String} (hX : ∀ s' : Shared, s'.TypeIs (.type X) "type") {Q : Fin → Shared → Prop} (hq : Q (.done (.ret (.bool false))) s) :
    wpAny (model prog w) A (Builtin.«object.__ne__» ⟨[.type X, .type X], []⟩) Q E s := by
  unfold Builtin.«object.__ne__»
  repeat (first
    | with_reducible refine wpAny_cRoomFor_or (.inl rfl) ?_
    | (refine wpAny_bind (m := callSpecialIfBound? (.type X) (Str.ofString "__eq__") [.type X]) (wpAny_callSpecialIfBound?_slot (hX _) TypeEq.slot_type_eq
        (call_gives TypeEq.slot_type_eq (hX _) F.entry_object_eq (F.args_object_eq_2 _ _) (TypeEq.object_eq_same rfl (by simp)) ?_)))
    | wp_step)
  refine show wpAny (model prog w) A (truthy (.bool true) >>= fun b => ret (Value.bool !b)) Q E s from ?_
  exact wpAny_bind (wpAny_truthy_bool (wpAny_pure hq))
theorem ne_type_same {X : String} (hX : ∀ s' : Shared, s'.TypeIs (.type X) "type") {Q : Value → Shared → Prop} (h : Q (.bool false) s) : wpAny (model prog w) A (compareOp .NotEq (.type X) (.type X)) Q E s := by
  show wpAny _ A (richCompare .NotEq _ _) Q E s
  refine wpAny_richCompare_same (T := "type") (hX s) (hX s) slot_type_ne ?_
  exact wpAny_call (codeAny_call_builtin slot_type_ne.plain F.cmpEntry_ne (slot_type_ne.check _ _ _ _ _ _ _ _ (hX s) (F.cmpArgs_ne _ _) (ne_entry_same hX ⟨(by intro e; cases e), h⟩)))
end

section
variable {X : Cx}
theorem op_neTy {T : String} (hX : ∀ s' : Shared, s'.TypeIs (.type T) "type") : OpR X (compareOp .NotEq) (fun x y H Q => x = .ty T ∧ y = .ty T ∧ Q (.bl false) H) := by
  intro pins s σ H x y v u Q I rx ry h
  obtain ⟨rfl, rfl, q⟩ := h
  cases (show v = Value.type T from rx)
  cases (show u = Value.type T from ry)
  exact ne_type_same hX (fin_bl I q rfl)
theorem op_eqTy {T : String} (hX : ∀ s' : Shared, s'.TypeIs (.type T) "type") : OpR X (compareOp .Eq) (fun x y H Q => x = .ty T ∧ y = .ty T ∧ Q (.bl true) H) := by
  intro pins s σ H x y v u Q I rx ry h
  obtain ⟨rfl, rfl, q⟩ := h
  cases (show v = Value.type T from rx)
  cases (show u = Value.type T from ry)
  exact TypeEq.eq_type_same hX (fin_bl I q rfl)
end

/-! ### `D.get(k)`, D a dict of the module with text keys -/
def KGet (K : PySem.W.Frag) (w : World) (a : Addr) (x : Str) (o : Option V) : Prop :=
  ∃ es n u, K.lookup a = some ⟨.type "dict", none, .dict es n, #[]⟩ ∧ PySem.W.KeysLit w.params es.toList ∧ PySem.W.nsIn K a x = some u ∧ RelO o u
def tKGet (K : PySem.W.Frag) (w : World) (td ty : TE) : TE := fun σ H Q => td σ H fun x H1 => ∃ a, x = .ref a ∧ (∃ es n, K.lookup a = some ⟨.type "dict", none, .dict es n, #[]⟩ ∧ PySem.W.KeysLit w.params es.toList) ∧ (a == sysModules) = false ∧ ty σ H1 fun y H2 => ∃ z o, y = .str z ∧ KGet K w a z o ∧ Q (o.getD .non) H2
section
variable {X : Cx} {o e : Expr} {apos cpos : Pos} {td ty : TE}
theorem pe_kget (ho : PE X o td) (he : PE X e ty) (m : M1 X o "get" apos e cpos) : PE X (.Call (.Attribute o "get" apos) [e] [] cpos) (tKGet X.K X.w td ty) := by
  refine ⟨fun pins s σ H Q I h => ?_⟩
  refine wpAny_Call_method m.base m.few m.line PySem.F.plainAttrs_dict PySem.F.slot_dict_get PySem.F.type_dict_get (thn (ho.run pins s σ H _ I h) fun u s1 ⟨x, H1, I1, rx, a, ex, ⟨es, n, hl, hk⟩, hd, q1⟩ => ?_)
  subst ex
  obtain rfl : u = Value.ref a := rx
  have hm := PySem.W.mapOf_K (prog := X.prog) (w := X.w) I1.kIn hl hk
  refine ⟨hm.typeIs, fun b q => ?_, ?_⟩
  · cases q
    exact ⟨_, I1.kIn a _ hl, rfl⟩
  rw [m.trees]
  refine Calls.callWith_builtin rfl (Calls.evalArgs_plain (Calls.spliced_cons (thn (he.run pins s1 σ H1 _ I1 q1) fun iv s2 ⟨y, H2, I2, ry, z, ov, ey, g, q2⟩ => Calls.spliced_nil ?_)))
  subst ey
  obtain ⟨t, rfl⟩ := ry
  obtain ⟨es', n', u', hl', hk', e', r'⟩ := g
  have hm2 := PySem.W.mapOf_K (prog := X.prog) (w := X.w) I2.kIn hl' hk'
  refine call_meetsIn PySem.F.slot_dict_get hm2.typeIs PySem.F.entry_dict_get (PySem.F.args_dict_get_2 _ _) (meets_dict_get (strKind X.prog X.w) a (strKind_is X.prog X.w z t) hd) ⟨_, hm2, ?_⟩
  rw [PySem.W.find_K hl' e']
  exact ⟨ov.getD .non, H2, I2.tok _, r'.getD rfl, q2⟩
end
/-! ### len(set(xs)) of whole numbers, whichever -/
def tLenSetG (K : PySem.W.Frag) (ta : TE) : TE := fun σ H Q => ta σ H fun x H1 => ∃ (l : Addr) (ns : List Int), x = .ref l ∧ SqL K H1 l (ns.map V.int) ∧ ns.length ≤ 4000 ∧ Q (.int ((firstMet (fun i => ns.getD i 0) ns.length).length : Nat)) H1
theorem pe_lenSetG {X : Cx} {a : Expr} {ta : TE} {p p2 q pos : Pos} (hg : Gl X "len") (hm : X.mg "len" = none) (hg2 : Gl X "set") (hm2 : X.mg "set" = none) (ha : PE X a ta) (hc : X.calm = true := by rfl)
    (na : starEach [a] X.env = (false, eval a X.env) :: starEach [] X.env := by rfl) : PE X (.Call (.Name "len" p) [.Call (.Name "set" p2) [a] [] q] [] pos) (tLenSetG X.K ta) := by
  refine ⟨fun pins s σ H Q I h => ?_⟩
  refine Call_ (ld_blt I hg hm boot_len ?_)
  refine PyProof.Rows.callWith_builtin1 (PyProof.Rows.args_cons ?_ rfl) rfl rfl
  refine Call_ (ld_blt I hg2 hm2 boot_set ?_)
  refine PyProof.Rows.callWith_type1 (PyProof.Rows.args_cons (thn (ha.run pins s σ H _ I h) fun v s1 ⟨x, H1, I1, r1, q1⟩ => PyProof.Rows.args_nil ?_) na) na rfl
  obtain ⟨l, ns, rfl, hq, hl, q1⟩ := q1
  cases r1
  obtain ⟨its, r, pl, hz⟩ := I1.list hq
  have hlen : its.toArray.size = ns.length := by rw [List.size_toArray, ← r.length, List.length_map]
  refine call_set_list (I1.ok.hd hc) pl.isList (by simpa using RZ.intsAre_vals r) (by rw [hlen]; unfold scanBound; omega) fun h' tk hS hk => ?_
  refine PyProof.Rows.args_nil ?_
  rw [hlen] at hS
  obtain ⟨o, es, ep, t, ho, hex, hd, _, _, _, hf, hn⟩ := hS
  have I2 : Inv X pins σ H1 { s1 with heap := h', toks := tk } := I1.kept fun b o e => hk b o (Heap.lt_size e) e
  have hle := firstMet_length_le (fun i => ns.getD i 0) ns.length
  exact call_len_set ho hex hd hf (by rw [hn] <;> omega) ⟨.int ((firstMet (fun i => ns.getD i 0) ns.length).length : Nat), H1, I2.tok _, ⟨_, by rw [hn]⟩, q1⟩
end Gm

set_option maxRecDepth 100000
set_option maxHeartbeats 4000000
namespace Gm
open PySem PySem.Spec PyProof.Rows L2

/-! ### patterns -/
inductive Pat where
  | sign (c : Nat) | any | none | row (p q : Pat) | or (p q : Pat) | more (p : Pat) | less (p : Pat) | group (n : Int) (p : Pat)
def nul : Pat → Bool
  | .sign _ => false
  | .any => false
  | .none => true
  | .row p q => nul p && nul q
  | .or p q => nul p || nul q
  | .more _ => true
  | .less _ => true
  | .group _ p => nul p
def kids : Pat → List Pat
  | .row p q => [p, q]
  | .or p q => [p, q]
  | .more p => [p]
  | .less p => [p]
  | .group _ p => [p]
  | _ => []
def subs : Pat → List Pat
  | .row p q => .row p q :: (subs p ++ subs q)
  | .or p q => .or p q :: (subs p ++ subs q)
  | .more p => .more p :: subs p
  | .less p => .less p :: subs p
  | .group n p => .group n p :: subs p
  | p => [p]
def subsL (W : List Pat) : List Pat := W.flatMap subs
theorem subsL_nil : subsL [] = [] := rfl
theorem subsL_cons (p : Pat) (W : List Pat) : subsL (p :: W) = subs p ++ subsL W := by
  unfold subsL
  rw [List.flatMap_cons]
theorem subsL_app (V W : List Pat) : subsL (V ++ W) = subsL V ++ subsL W := by
  unfold subsL
  rw [List.flatMap_append]
theorem subs_eq (p : Pat) : subs p = p :: subsL (kids p) := by
  cases p <;> simp [subs, kids, subsL]
def siz (p : Pat) : Nat := (subs p).length
theorem siz_pos (p : Pat) : 0 < siz p := by
  unfold siz
  rw [subs_eq]
  exact Nat.succ_pos _
theorem subsL_pos (W : List Pat) : W.length ≤ (subsL W).length := by
  induction W with
  | nil => exact Nat.le_refl _
  | cons p W ih =>
    rw [subsL_cons, List.length_append, List.length_cons]
    have := siz_pos p
    unfold siz at this
    omega
def nm : Pat → Str
  | .sign _ => "sign"
  | .any => "any"
  | .none => "none"
  | .row _ _ => "row"
  | .or _ _ => "or"
  | .more _ => "more"
  | .less _ => "less"
  | .group _ _ => "group"

/-! ### what the answers of the inner ones give -/
def mtn (z : Str) (bs : List Bool) : Bool :=
  if z = "none" ∨ z = "more" ∨ z = "less" then true else if z = "row" ∨ z = "group" then bs.all id else bs.any id
theorem mtn_row (bs : List Bool) : mtn "row" bs = bs.all id := by
  unfold mtn
  rw [if_neg (by decide +kernel), if_pos (by decide +kernel)]
theorem mtn_group (bs : List Bool) : mtn "group" bs = bs.all id := by
  unfold mtn
  rw [if_neg (by decide +kernel), if_pos (by decide +kernel)]
theorem mtn_or (bs : List Bool) : mtn "or" bs = bs.any id := by
  unfold mtn
  rw [if_neg (by decide +kernel), if_neg (by decide +kernel)]
theorem mtn_more (bs : List Bool) : mtn "more" bs = true := by
  unfold mtn
  rw [if_pos (by decide +kernel)]
theorem mtn_less (bs : List Bool) : mtn "less" bs = true := by
  unfold mtn
  rw [if_pos (by decide +kernel)]
def stk : List Pat → List Bool
  | [] => []
  | x :: L => mtn (nm x) ((stk L).take (kids x).length) :: (stk L).drop (kids x).length
def tk : List Pat → List Bool
  | [] => []
  | x :: L => mtn (nm x) ((stk L).take (kids x).length) :: tk L
def okL : List Pat → Prop
  | [] => True
  | x :: L => (kids x).length ≤ (stk L).length ∧ okL L
theorem okL_drop : ∀ (k : Nat) {L : List Pat}, okL L → okL (L.drop k)
  | 0, _, h => h
  | _ + 1, [], _ => trivial
  | k + 1, _ :: L, h => okL_drop k (L := L) h.2
theorem tk_length : ∀ L : List Pat, (tk L).length = L.length
  | [] => rfl
  | x :: L => by
    show (tk L).length + 1 = L.length + 1
    rw [tk_length L]
theorem stk_le : ∀ L : List Pat, (stk L).length ≤ L.length
  | [] => Nat.le_refl _
  | x :: L => by
    show ((stk L).drop _).length + 1 ≤ L.length + 1
    have := stk_le L
    rw [List.length_drop]
    omega
theorem stk_subs : ∀ (p : Pat) (L : List Pat), stk (subs p ++ L) = nul p :: stk L ∧ tk (subs p ++ L) = (subs p).map nul ++ tk L ∧ (okL L → okL (subs p ++ L))
  | .sign c, L => ⟨rfl, rfl, fun h => ⟨Nat.zero_le _, h⟩⟩
  | .any, L => ⟨rfl, rfl, fun h => ⟨Nat.zero_le _, h⟩⟩
  | .none, L => ⟨rfl, rfl, fun h => ⟨Nat.zero_le _, h⟩⟩
  | .row p q, L => by
    obtain ⟨q1, q2, q3⟩ := stk_subs q L
    obtain ⟨p1, p2, p3⟩ := stk_subs p (subs q ++ L)
    have e : subs (.row p q) ++ L = .row p q :: (subs p ++ (subs q ++ L)) := by
      show (_ :: (subs p ++ subs q)) ++ L = _
      rw [List.cons_append, List.append_assoc]
    rw [e]
    refine ⟨?_, ?_, fun h => ⟨?_, p3 (q3 h)⟩⟩
    · show mtn "row" ((stk (subs p ++ (subs q ++ L))).take 2) :: (stk (subs p ++ (subs q ++ L))).drop 2 = _
      rw [p1, q1]
      simp [mtn_row, mtn_or, mtn_more, mtn_less, mtn_group, nul]
    · show mtn "row" ((stk (subs p ++ (subs q ++ L))).take 2) :: tk (subs p ++ (subs q ++ L)) = _
      rw [p1, q1, p2, q2]
      simp [mtn_row, mtn_or, mtn_more, mtn_less, mtn_group, nul, subs]
    · rw [p1, q1]
      show 2 ≤ _
      simp
  | .or p q, L => by
    obtain ⟨q1, q2, q3⟩ := stk_subs q L
    obtain ⟨p1, p2, p3⟩ := stk_subs p (subs q ++ L)
    have e : subs (.or p q) ++ L = .or p q :: (subs p ++ (subs q ++ L)) := by
      show (_ :: (subs p ++ subs q)) ++ L = _
      rw [List.cons_append, List.append_assoc]
    rw [e]
    refine ⟨?_, ?_, fun h => ⟨?_, p3 (q3 h)⟩⟩
    · show mtn "or" ((stk (subs p ++ (subs q ++ L))).take 2) :: (stk (subs p ++ (subs q ++ L))).drop 2 = _
      rw [p1, q1]
      simp [mtn_row, mtn_or, mtn_more, mtn_less, mtn_group, nul]
    · show mtn "or" ((stk (subs p ++ (subs q ++ L))).take 2) :: tk (subs p ++ (subs q ++ L)) = _
      rw [p1, q1, p2, q2]
      simp [mtn_row, mtn_or, mtn_more, mtn_less, mtn_group, nul, subs]
    · rw [p1, q1]
      show 2 ≤ _
      simp
  | .more p, L => by
    obtain ⟨p1, p2, p3⟩ := stk_subs p L
    refine ⟨?_, ?_, fun h => ⟨?_, p3 h⟩⟩
    · show mtn "more" ((stk (subs p ++ L)).take 1) :: (stk (subs p ++ L)).drop 1 = _
      rw [p1]
      simp [mtn_row, mtn_or, mtn_more, mtn_less, mtn_group, nul]
    · show mtn "more" ((stk (subs p ++ L)).take 1) :: tk (subs p ++ L) = _
      rw [p1, p2]
      simp [mtn_row, mtn_or, mtn_more, mtn_less, mtn_group, nul, subs]
    · show 1 ≤ (stk (subs p ++ L)).length
      rw [p1]
      simp
  | .less p, L => by
    obtain ⟨p1, p2, p3⟩ := stk_subs p L
    refine ⟨?_, ?_, fun h => ⟨?_, p3 h⟩⟩
    · show mtn "less" ((stk (subs p ++ L)).take 1) :: (stk (subs p ++ L)).drop 1 = _
      rw [p1]
      simp [mtn_row, mtn_or, mtn_more, mtn_less, mtn_group, nul]
    · show mtn "less" ((stk (subs p ++ L)).take 1) :: tk (subs p ++ L) = _
      rw [p1, p2]
      simp [mtn_row, mtn_or, mtn_more, mtn_less, mtn_group, nul, subs]
    · show 1 ≤ (stk (subs p ++ L)).length
      rw [p1]
      simp
  | .group n p, L => by
    obtain ⟨p1, p2, p3⟩ := stk_subs p L
    refine ⟨?_, ?_, fun h => ⟨?_, p3 h⟩⟩
    · show mtn "group" ((stk (subs p ++ L)).take 1) :: (stk (subs p ++ L)).drop 1 = _
      rw [p1]
      simp [mtn_row, mtn_or, mtn_more, mtn_less, mtn_group, nul]
    · show mtn "group" ((stk (subs p ++ L)).take 1) :: tk (subs p ++ L) = _
      rw [p1, p2]
      simp [mtn_row, mtn_or, mtn_more, mtn_less, mtn_group, nul, subs]
    · show 1 ≤ (stk (subs p ++ L)).length
      rw [p1]
      simp

/-! ### a pattern in memory -/
section
variable {K : PySem.W.Frag}
/-- tuples stay -/
def TS (K : PySem.W.Frag) (H H' : Hp) : Prop := ∀ a xs, SqT K H a xs → SqT K H' a xs
theorem TS.refl {H : Hp} : TS K H H := fun _ _ h => h
theorem TS.trans {H H1 H2 : Hp} (a : TS K H H1) (b : TS K H1 H2) : TS K H H2 := fun x o h => b x o (a x o h)
theorem TS.of {H H' : Hp} (e : Same H H') : TS K H H' := fun a xs h => by
  rcases h with (h | ⟨o, h⟩) | h
  · exact .inl (.inl (e _ _ h))
  · exact .inl (.inr ⟨o, e _ _ h⟩)
  · exact .inr h
theorem same_new {H : Hp} {p : Addr} {o : HO} (h : H p = none) : Same H (upd H p o) := fun b u q => by
  rw [upd_ne (ne_of_none q h)]
  exact q
theorem TS.new {H : Hp} {p : Addr} {o : HO} (h : H p = none) : TS K H (upd H p o) := TS.of (same_new h)
/-- a list that changes -/
theorem TS.lst {H : Hp} {l : Addr} {xs ys : List V} (h : H l = some (.lst xs)) : TS K H (upd H l (.lst ys)) := fun a zs q => by
  have n : ∀ {o : HO}, H a = some o → o ≠ .lst xs → a ≠ l := fun e d z => by
    rw [z, h] at e
    exact d (Option.some.inj e).symm
  rcases q with (q | ⟨o, q⟩) | q
  · exact .inl (.inl (by rw [upd_ne (n q (fun z => nomatch z))]; exact q))
  · exact .inl (.inr ⟨o, by rw [upd_ne (n q (fun z => nomatch z))]; exact q⟩)
  · exact .inr q
/-- an object that H does not know may change -/
theorem Same.mut {H H' : Hp} {p : Addr} {o : HO} (e : Same H H') (h : H p = none) : Same H (upd H' p o) := fun a u ha => by
  rw [upd_ne (ne_of_none ha h)]
  exact e a u ha

def PAt (K : PySem.W.Frag) (H : Hp) : Pat → V → Prop
  | .sign c, v => ∃ a, v = .ref a ∧ c < 0x110000 ∧ SqT K H a [.str "sign", .str ⟨#[c]⟩]
  | .any, v => ∃ a, v = .ref a ∧ SqT K H a [.str "any"]
  | .none, v => ∃ a, v = .ref a ∧ SqT K H a [.str "none"]
  | .row p q, v => ∃ a x y, v = .ref a ∧ SqT K H a [.str "row", x, y] ∧ PAt K H p x ∧ PAt K H q y
  | .or p q, v => ∃ a x y, v = .ref a ∧ SqT K H a [.str "or", x, y] ∧ PAt K H p x ∧ PAt K H q y
  | .more p, v => ∃ a x, v = .ref a ∧ SqT K H a [.str "more", x] ∧ PAt K H p x
  | .less p, v => ∃ a x, v = .ref a ∧ SqT K H a [.str "less", x] ∧ PAt K H p x
  | .group n p, v => ∃ a x, v = .ref a ∧ 1 ≤ n ∧ SqT K H a [.str "group", .int n, x] ∧ PAt K H p x
theorem PAt.mono {H H' : Hp} (e : TS K H H') : ∀ {p : Pat} {v : V}, PAt K H p v → PAt K H' p v
  | .sign _, _, ⟨a, h, c, t⟩ => ⟨a, h, c, e _ _ t⟩
  | .any, _, ⟨a, h, t⟩ => ⟨a, h, e _ _ t⟩
  | .none, _, ⟨a, h, t⟩ => ⟨a, h, e _ _ t⟩
  | .row _ _, _, ⟨a, x, y, h, t, u, w⟩ => ⟨a, x, y, h, e _ _ t, PAt.mono e u, PAt.mono e w⟩
  | .or _ _, _, ⟨a, x, y, h, t, u, w⟩ => ⟨a, x, y, h, e _ _ t, PAt.mono e u, PAt.mono e w⟩
  | .more _, _, ⟨a, x, h, t, u⟩ => ⟨a, x, h, e _ _ t, PAt.mono e u⟩
  | .less _, _, ⟨a, x, h, t, u⟩ => ⟨a, x, h, e _ _ t, PAt.mono e u⟩
  | .group _ _, _, ⟨a, x, h, n, t, u⟩ => ⟨a, x, h, n, e _ _ t, PAt.mono e u⟩
def PAts (K : PySem.W.Frag) (H : Hp) : List Pat → List V → Prop := Paired (PAt K H)
theorem PAts.mono {H H' : Hp} (e : TS K H H') {L : List Pat} {vs : List V} (h : PAts K H L vs) : PAts K H' L vs := Paired.mapP h fun _ _ z => z.mono e
/-- what stands between the name and the inner patterns -/
def mid : Pat → List V
  | .sign c => [.str ⟨#[c]⟩]
  | .group n _ => [.int n]
  | _ => []
theorem PAt.node {H : Hp} {p : Pat} {v : V} (h : PAt K H p v) : ∃ a ws, v = .ref a ∧ SqT K H a (.str (nm p) :: (mid p ++ ws)) ∧ PAts K H (kids p) ws := by
  cases p with
  | sign c => obtain ⟨a, h, _, t⟩ := h; exact ⟨a, [], h, t, .nil⟩
  | any => obtain ⟨a, h, t⟩ := h; exact ⟨a, [], h, t, .nil⟩
  | none => obtain ⟨a, h, t⟩ := h; exact ⟨a, [], h, t, .nil⟩
  | row p q => obtain ⟨a, x, y, h, t, u, w⟩ := h; exact ⟨a, [x, y], h, t, .cons u (.cons w .nil)⟩
  | or p q => obtain ⟨a, x, y, h, t, u, w⟩ := h; exact ⟨a, [x, y], h, t, .cons u (.cons w .nil)⟩
  | more p => obtain ⟨a, x, h, t, u⟩ := h; exact ⟨a, [x], h, t, .cons u .nil⟩
  | less p => obtain ⟨a, x, h, t, u⟩ := h; exact ⟨a, [x], h, t, .cons u .nil⟩
  | group n p => obtain ⟨a, x, h, _, t, u⟩ := h; exact ⟨a, [x], h, t, .cons u .nil⟩
theorem PAt.num {H : Hp} {n : Int} {p : Pat} {v : V} (h : PAt K H (.group n p) v) : 1 ≤ n := by
  obtain ⟨_, _, _, h, _⟩ := h
  exact h
theorem Paired.app {α β : Type} {F : α → β → Prop} : ∀ {l₁ : List α} {l₂ : List β} {m₁ : List α} {m₂ : List β}, Paired F l₁ l₂ → Paired F m₁ m₂ → Paired F (l₁ ++ m₁) (l₂ ++ m₂)
  | _, _, _, _, .nil, h => h
  | _, _, _, _, .cons a t, h => .cons a (Paired.app t h)
theorem Paired.rev {α β : Type} {F : α → β → Prop} : ∀ {l₁ : List α} {l₂ : List β}, Paired F l₁ l₂ → Paired F l₁.reverse l₂.reverse
  | _, _, .nil => .nil
  | _, _, .cons a t => by
    rw [List.reverse_cons, List.reverse_cons]
    exact Paired.snoc (Paired.rev t) a
theorem Paired.at {α β : Type} {F : α → β → Prop} : ∀ {l₁ : List α} {l₂ : List β} {i : Nat} {y : β}, Paired F l₁ l₂ → l₂[i]? = some y → ∃ x, l₁[i]? = some x ∧ F x y
  | _, _, _, _, .nil, h => by simp at h
  | _, _, 0, y, .cons a _, h => ⟨_, rfl, by rw [← Option.some.inj h]; exact a⟩
  | _, _, i + 1, y, .cons _ t, h => Paired.at (i := i) t h
/-- the last one -/
theorem Paired.last {α β : Type} {F : α → β → Prop} {ps : List α} {vs : List β} (h : Paired F ps vs) (n : 0 < ps.length) : ∃ ps' p vs' v, ps = ps' ++ [p] ∧ vs = vs' ++ [v] ∧ Paired F ps' vs' ∧ F p v := by
  have r := Paired.rev h
  have e1 : ps.reverse.reverse = ps := List.reverse_reverse ps
  have e2 : vs.reverse.reverse = vs := List.reverse_reverse vs
  generalize ps.reverse = ps' at r e1
  generalize vs.reverse = vs' at r e2
  cases r with
  | nil =>
    rw [← e1] at n
    exact absurd n (Nat.lt_irrefl 0)
  | @cons a b l m f t =>
    rw [List.reverse_cons] at e1 e2
    exact ⟨l.reverse, a, m.reverse, b, e1.symm, e2.symm, Paired.rev t, f⟩

/-! ### the law's pieces -/
def cellAt (ns : List Int) (k : Nat) : Int := ns.getD k 0
def tabS : Str := (" !\"#$&'()*+,-./0123456789:;<=>?@ABCDEFGHIJKLMNOPQRSTUVWXYZ[\\]^_`" : Str) ++ ("abcdefghijklmnopqrstuvwxyz{|}~\n" : Str)
theorem tab_len : tabS.length = 95 := by decide +kernel
theorem tab_len' : tabS.cps.toList.length = 95 := by decide +kernel
def lsg (c : Int) : Nat := tabS.cps.toList.getD (c % 95).toNat 0
theorem lsg_at (c : Int) : atI tabS.cps.toList (c % 95) = some (lsg c) := by
  have h0 : 0 ≤ c % 95 := Int.emod_nonneg _ (by decide)
  have h1 : c % 95 < 95 := Int.emod_lt_of_pos _ (by decide)
  have hk : (c % 95).toNat < tabS.cps.toList.length := by
    rw [tab_len']
    omega
  have e : c % 95 = (((c % 95).toNat : Nat) : Int) := by omega
  have q : tabS.cps.toList[(c % 95).toNat]? = some (lsg c) := by
    unfold lsg
    rw [List.getD_eq_getElem?_getD, List.getElem?_eq_getElem hk]
    rfl
  rw [e]
  exact atI_nat q
theorem tab_small : tabS.cps.toList.all (fun c => decide (c < 0x110000)) = true := by decide +kernel
theorem lsg_lt (c : Int) : lsg c < 0x110000 := by
  have h := lsg_at c
  have h0 : 0 ≤ c % 95 := Int.emod_nonneg _ (by decide)
  have h1 : c % 95 < 95 := Int.emod_lt_of_pos _ (by decide)
  unfold lsg
  rw [List.getD_eq_getElem?_getD]
  cases e : tabS.cps.toList[(c % 95).toNat]? with
  | none => exact (by decide : (0 : Nat) < 0x110000)
  | some k =>
    have hm := List.mem_of_getElem? e
    exact of_decide_eq_true (List.all_eq_true.mp tab_small k hm)
/-! ### readings in short -/
theorem or2 {t u : TT} {σ : L2.St} {H : Hp} {b1 b2 : Bool} {Q : Bool → Hp → Prop} (h1 : ∀ Q : Bool → Hp → Prop, Q b1 H → t σ H Q) (h2 : ∀ Q : Bool → Hp → Prop, Q b2 H → u σ H Q) (q : Q (b1 || b2) H) : tOr t u σ H Q := by
  refine h1 _ ?_
  cases b1
  · exact iteF (h2 Q q)
  · exact iteT q
theorem and2 {t u : TT} {σ : L2.St} {H : Hp} {b1 b2 : Bool} {Q : Bool → Hp → Prop} (h1 : ∀ Q : Bool → Hp → Prop, Q b1 H → t σ H Q) (h2 : ∀ Q : Bool → Hp → Prop, Q b2 H → u σ H Q) (q : Q (b1 && b2) H) : tAnd t u σ H Q := by
  refine h1 _ ?_
  cases b1
  · exact iteF q
  · exact iteT (h2 Q q)
theorem g_nx {i : Nat} {v : V} {σ : L2.St} {H : Hp} {a : L2.St → Hp → Prop} {b : VK} {c d : L2.St → Hp → Prop} (h : a (σ.set i (some v)) H) : gName i v σ H (L2.Ends.mk a b c d).nx := h
theorem e_nx {σ : L2.St} {H : Hp} {a : L2.St → Hp → Prop} {b : VK} {c d : L2.St → Hp → Prop} (h : a σ H) : (L2.Ends.mk a b c d).nx σ H := h
theorem g_name {i : Nat} {v : V} {σ : L2.St} {H : Hp} {Q : L2.St → Hp → Prop} (h : Q (σ.set i (some v)) H) : gName i v σ H Q := h
/-- a test that leaves all as it is -/
def Tst (t : TT) (σ : L2.St) (H : Hp) (b : Bool) : Prop := ∀ Q : Bool → Hp → Prop, Q b H → t σ H Q
theorem if_tst {c : TT} {x y : L2.TS} {D : L2.Ends} {σ : L2.St} {H : Hp} {b : Bool} (h : Tst c σ H b) (q1 : b = true → x D σ H) (q2 : b = false → y D σ H) : tIfS c x y D σ H := by
  refine h _ ?_
  cases b
  · exact iteF (q2 rfl)
  · exact iteT (q1 rfl)
theorem tst_or {t u : TT} {σ : L2.St} {H : Hp} {b1 b2 : Bool} (h1 : Tst t σ H b1) (h2 : Tst u σ H b2) : Tst (tOr t u) σ H (b1 || b2) := fun Q q => or2 h1 h2 q
theorem tst_and {t u : TT} {σ : L2.St} {H : Hp} {b1 b2 : Bool} (h1 : Tst t σ H b1) (h2 : Tst u σ H b2) : Tst (tAnd t u) σ H (b1 && b2) := fun Q q => and2 h1 h2 q
theorem yes_if {A B : Hp → Prop} {σ : L2.St} {H : Hp} (h : A H) : tYes σ H (fun b H3 => if b = true then A H3 else B H3) := by
  show if true = true then A H else B H
  rw [if_pos rfl]
  exact h
theorem at0 {α : Type} {xs : List α} {v : α} (h : xs[0]? = some v) : atI xs 0 = some v := atI_nat (j := 0) h
theorem at1 {α : Type} {xs : List α} {v : α} (h : xs[1]? = some v) : atI xs 1 = some v := atI_nat (j := 1) h
theorem at2 {α : Type} {xs : List α} {v : α} (h : xs[2]? = some v) : atI xs 2 = some v := atI_nat (j := 2) h
theorem last_get {α : Type} (xs : List α) (y : α) : (xs ++ [y])[(xs ++ [y]).length - 1]? = some y := by simp
theorem r_pop {H : Hp} {l : Addr} {xs : List V} {y : V} {Q : VK} (h : H l = some (.lst (xs ++ [y]))) (q : Q y (upd H l (.lst xs))) : rPop (.ref l) [] H Q := by
  refine ⟨l, xs ++ [y], y, rfl, rfl, h, by simp, ?_⟩
  rw [List.dropLast_concat]
  exact q
theorem r_ixT {H : Hp} {a : Addr} {xs : List V} {v : V} {Q : VK} (i : Nat) (h : SqT K H a xs) (e : xs[i]? = some v) (q : Q v H) : rIxT K (.ref a) (.int (i : Int)) H Q := ⟨a, xs, i, v, rfl, rfl, h, atI_nat e, q⟩
theorem r_ixL {H : Hp} {a : Addr} {xs : List V} {v : V} {Q : VK} (i : Nat) (h : SqL K H a xs) (e : xs[i]? = some v) (q : Q v H) : rIxL K (.ref a) (.int (i : Int)) H Q := ⟨a, xs, i, v, rfl, rfl, h, atI_nat e, q⟩
theorem sz {n : Nat} (h : n ≤ 10000) : n ≤ sizeLine := Nat.le_trans h (by decide)
theorem szl {n : Nat} (h : n ≤ 10000) : n < sizeLine := Nat.lt_of_le_of_lt h (by decide)
theorem inV3 (z a b c : Str) : inV (.str z) [.str a, .str b, .str c] = decide (z = a ∨ z = b ∨ z = c) := by
  rw [Bool.eq_iff_iff]
  show ((a == z) || ((b == z) || ((c == z) || false))) = true ↔ _
  simp only [Bool.or_eq_true, beq_iff_eq, Bool.or_false, decide_eq_true_eq]
  constructor
  · rintro (h | h | h)
    · exact .inl h.symm
    · exact .inr (.inl h.symm)
    · exact .inr (.inr h.symm)
  · rintro (h | h | h)
    · exact .inl h.symm
    · exact .inr (.inl h.symm)
    · exact .inr (.inr h.symm)
theorem inV2 (z a b : Str) : inV (.str z) [.str a, .str b] = decide (z = a ∨ z = b) := by
  rw [Bool.eq_iff_iff]
  show ((a == z) || ((b == z) || false)) = true ↔ _
  simp only [Bool.or_eq_true, beq_iff_eq, Bool.or_false, decide_eq_true_eq]
  constructor
  · rintro (h | h)
    · exact .inl h.symm
    · exact .inr h.symm
  · rintro (h | h)
    · exact .inl h.symm
    · exact .inr h.symm
/-- x in (a, b, ..), texts -/
theorem r_inT {H : Hp} {x : Str} {p : Addr} {xs : List V} {Q : VK} (h : SqT K H p xs) (f : xs.all flatV = true) (q : Q (.bl (inV (.str x) xs)) H) : rIn K false (.str x) (.ref p) H Q := ⟨p, xs, rfl, .inr h, rfl, f, q⟩
def tot (ps : List Pat) : Nat := (ps.map siz).sum
theorem tot_snoc (ps : List Pat) (p : Pat) : tot (ps ++ [p]) = tot ps + siz p := by
  unfold tot
  simp
theorem tot_nil : tot [] = 0 := rfl
theorem len_tot : ∀ ps : List Pat, ps.length ≤ tot ps
  | [] => Nat.le_refl _
  | p :: ps => by
    have h := len_tot ps
    have := siz_pos p
    show ps.length + 1 ≤ (siz p :: ps.map siz).sum
    rw [List.sum_cons]
    unfold tot at h
    omega
/-- one on the pile: the pattern, and whether it may take nothing -/
def Ent (K : PySem.W.Frag) (H : Hp) (p : Pat) (v : V) : Prop := ∃ t x, v = .ref t ∧ SqT K H t [x, .bl (nul p)] ∧ PAt K H p x
theorem Ent.mono {H H' : Hp} (e : TS K H H') {p : Pat} {v : V} : Ent K H p v → Ent K H' p v
  | ⟨t, x, h, q, u⟩ => ⟨t, x, h, e _ _ q, u.mono e⟩
theorem Ent.mk {H : Hp} {p : Pat} {t : Addr} {x : V} {b : Bool} (n : H t = none) (u : PAt K H p x) (e : nul p = b) : Ent K (upd H t (.tup [x, .bl b])) p (.ref t) := by
  subst e
  exact ⟨t, x, rfl, SqT.of upd_same, u.mono (TS.new n)⟩
end

/-! ### depths, data -/
def dep : Pat → Nat
  | .row p q => 1 + max (dep p) (dep q)
  | .or p q => 1 + max (dep p) (dep q)
  | .more p => 1 + dep p
  | .less p => 1 + dep p
  | .group _ p => 1 + dep p
  | _ => 1
theorem dep_pos (p : Pat) : 0 < dep p := by cases p <;> simp only [dep] <;> omega
def pd : Pat → PyData
  | .sign c => .tuple [.str "sign", .str ⟨#[c]⟩]
  | .any => .tuple [.str "any"]
  | .none => .tuple [.str "none"]
  | .row p q => .tuple [.str "row", pd p, pd q]
  | .or p q => .tuple [.str "or", pd p, pd q]
  | .more p => .tuple [.str "more", pd p]
  | .less p => .tuple [.str "less", pd p]
  | .group n p => .tuple [.str "group", .int n, pd p]
section
variable {K : PySem.W.Frag} {H : Hp}
theorem PAt.dp : ∀ {p : Pat} {v : V}, PAt K H p v → Dp K H v (pd p)
  | .sign _, _, ⟨_, h, _, t⟩ => by rw [h]; exact .tup t (.cons (.str _) (.cons (.str _) .nil))
  | .any, _, ⟨_, h, t⟩ => by rw [h]; exact .tup t (.cons (.str _) .nil)
  | .none, _, ⟨_, h, t⟩ => by rw [h]; exact .tup t (.cons (.str _) .nil)
  | .row _ _, _, ⟨_, _, _, h, t, u, w⟩ => by rw [h]; exact .tup t (.cons (.str _) (.cons (PAt.dp u) (.cons (PAt.dp w) .nil)))
  | .or _ _, _, ⟨_, _, _, h, t, u, w⟩ => by rw [h]; exact .tup t (.cons (.str _) (.cons (PAt.dp u) (.cons (PAt.dp w) .nil)))
  | .more _, _, ⟨_, _, h, t, u⟩ => by rw [h]; exact .tup t (.cons (.str _) (.cons (PAt.dp u) .nil))
  | .less _, _, ⟨_, _, h, t, u⟩ => by rw [h]; exact .tup t (.cons (.str _) (.cons (PAt.dp u) .nil))
  | .group _ _, _, ⟨_, _, h, _, t, u⟩ => by rw [h]; exact .tup t (.cons (.str _) (.cons (.int _) (.cons (PAt.dp u) .nil)))
theorem PAts.dp : ∀ {L : List Pat} {vs : List V}, PAts K H L vs → DpAll K H vs (L.map pd)
  | _, _, .nil => .nil
  | _, _, .cons h t => .cons h.dp (PAts.dp t)
theorem lay_cons {x : PyData} {xs : List PyData} (h : x.canLay0 = true) (t : PyData.canLayAll0 xs = true) : PyData.canLayAll0 (x :: xs) = true := by
  rw [PyData.canLayAll0, h, t]
  rfl
theorem lay_nil : PyData.canLayAll0 [] = true := by rw [PyData.canLayAll0]
theorem lay_tup {xs : List PyData} (h : PyData.canLayAll0 xs = true) : (PyData.tuple xs).canLay0 = true := by
  rw [PyData.canLay0]
  exact h
theorem lay_list {xs : List PyData} (h : PyData.canLayAll0 xs = true) : (PyData.list xs).canLay0 = true := by
  rw [PyData.canLay0]
  exact h
theorem lay_str {x : Str} (h : PyData.strOk x = true) : (PyData.str x).canLay0 = true := by
  rw [PyData.canLay0]
  exact h
theorem lay_int (i : Int) : (PyData.int i).canLay0 = true := by rw [PyData.canLay0]
theorem ok_chr {c : Nat} (h : c < 0x110000) : PyData.strOk ⟨#[c]⟩ = true := by
  unfold PyData.strOk
  simp [h]
theorem PAt.lay : ∀ {p : Pat} {v : V}, PAt K H p v → (pd p).canLay0 = true
  | .sign _, _, ⟨_, _, c, _⟩ => lay_tup (lay_cons (lay_str (by decide +kernel)) (lay_cons (lay_str (ok_chr c)) lay_nil))
  | .any, _, _ => lay_tup (lay_cons (lay_str (by decide +kernel)) lay_nil)
  | .none, _, _ => lay_tup (lay_cons (lay_str (by decide +kernel)) lay_nil)
  | .row _ _, _, ⟨_, _, _, _, _, u, w⟩ => lay_tup (lay_cons (lay_str (by decide +kernel)) (lay_cons (PAt.lay u) (lay_cons (PAt.lay w) lay_nil)))
  | .or _ _, _, ⟨_, _, _, _, _, u, w⟩ => lay_tup (lay_cons (lay_str (by decide +kernel)) (lay_cons (PAt.lay u) (lay_cons (PAt.lay w) lay_nil)))
  | .more _, _, ⟨_, _, _, _, u⟩ => lay_tup (lay_cons (lay_str (by decide +kernel)) (lay_cons (PAt.lay u) lay_nil))
  | .less _, _, ⟨_, _, _, _, u⟩ => lay_tup (lay_cons (lay_str (by decide +kernel)) (lay_cons (PAt.lay u) lay_nil))
  | .group _ _, _, ⟨_, _, _, _, _, u⟩ => lay_tup (lay_cons (lay_str (by decide +kernel)) (lay_cons (lay_int _) (lay_cons (PAt.lay u) lay_nil)))
theorem PAts.lay : ∀ {L : List Pat} {vs : List V}, PAts K H L vs → PyData.canLayAll0 (L.map pd) = true
  | _, _, .nil => lay_nil
  | _, _, .cons h t => lay_cons h.lay (PAts.lay t)
theorem pd_depth : ∀ p : Pat, (pd p).depth ≤ dep p
  | .sign _ => by simp [pd, dep, PyData.depth, PyData.depthAll]
  | .any => by simp [pd, dep, PyData.depth, PyData.depthAll]
  | .none => by simp [pd, dep, PyData.depth, PyData.depthAll]
  | .row p q => by
    have h1 := pd_depth p
    have h2 := pd_depth q
    simp only [pd, dep, PyData.depth, PyData.depthAll]
    omega
  | .or p q => by
    have h1 := pd_depth p
    have h2 := pd_depth q
    simp only [pd, dep, PyData.depth, PyData.depthAll]
    omega
  | .more p => by
    have h1 := pd_depth p
    simp only [pd, dep, PyData.depth, PyData.depthAll]
    omega
  | .less p => by
    have h1 := pd_depth p
    simp only [pd, dep, PyData.depth, PyData.depthAll]
    omega
  | .group n p => by
    have h1 := pd_depth p
    simp only [pd, dep, PyData.depth, PyData.depthAll]
    omega
theorem depthAll_app : ∀ xs ys : List PyData, PyData.depthAll (xs ++ ys) = max (PyData.depthAll xs) (PyData.depthAll ys)
  | [], ys => by simp [PyData.depthAll]
  | x :: xs, ys => by
    have h := depthAll_app xs ys
    simp only [List.cons_append, PyData.depthAll, h]
    omega
theorem subs_depth : ∀ p : Pat, PyData.depthAll ((subs p).map pd) ≤ dep p
  | .sign c => by
    have h := pd_depth (.sign c)
    simp only [subs, List.map, PyData.depthAll]
    omega
  | .any => by
    have h := pd_depth .any
    simp only [subs, List.map, PyData.depthAll]
    omega
  | .none => by
    have h := pd_depth .none
    simp only [subs, List.map, PyData.depthAll]
    omega
  | .row p q => by
    have h := pd_depth (.row p q)
    have h1 := subs_depth p
    have h2 := subs_depth q
    simp only [subs, List.map_cons, List.map_append, PyData.depthAll, depthAll_app]
    simp only [dep] at *
    omega
  | .or p q => by
    have h := pd_depth (.or p q)
    have h1 := subs_depth p
    have h2 := subs_depth q
    simp only [subs, List.map_cons, List.map_append, PyData.depthAll, depthAll_app]
    simp only [dep] at *
    omega
  | .more p => by
    have h := pd_depth (.more p)
    have h1 := subs_depth p
    simp only [subs, List.map_cons, PyData.depthAll]
    simp only [dep] at *
    omega
  | .less p => by
    have h := pd_depth (.less p)
    have h1 := subs_depth p
    simp only [subs, List.map_cons, PyData.depthAll]
    simp only [dep] at *
    omega
  | .group n p => by
    have h := pd_depth (.group n p)
    have h1 := subs_depth p
    simp only [subs, List.map_cons, PyData.depthAll]
    simp only [dep] at *
    omega
theorem shaped_of {d : PyData} (h : d.canLay0 = true) (z : d.depth ≤ 64) : SeqAt.shaped d = true := by
  unfold SeqAt.shaped
  rw [h, decide_eq_true z]
  rfl
theorem list_depth {xs : List PyData} {n : Nat} (h : PyData.depthAll xs ≤ n) : (PyData.list xs).depth ≤ 1 + n := by
  simp only [PyData.depth]
  omega
theorem ints_dp : ∀ ns : List Int, DpAll K H (ns.map V.int) (ns.map PyData.int)
  | [] => .nil
  | _ :: r => .cons (.int _) (ints_dp r)
theorem ints_lay : ∀ ns : List Int, PyData.canLayAll0 (ns.map PyData.int) = true
  | [] => lay_nil
  | _ :: r => lay_cons (lay_int _) (ints_lay r)
theorem ints_depth : ∀ ns : List Int, PyData.depthAll (ns.map PyData.int) = 0
  | [] => by simp [PyData.depthAll]
  | _ :: r => by simp [PyData.depthAll, PyData.depth, ints_depth r]
end
/-- the numbers of the groups among some parts -/
def nums (L : List Pat) : List Int := L.filterMap fun p => match p with
  | .group n _ => some n
  | _ => none
theorem siz_row (p q : Pat) : siz (.row p q) = 1 + siz p + siz q := by
  show (_ :: (subs p ++ subs q)).length = _
  rw [List.length_cons, List.length_append]
  unfold siz
  omega
theorem siz_or (p q : Pat) : siz (.or p q) = 1 + siz p + siz q := siz_row p q
theorem siz_more (p : Pat) : siz (.more p) = 1 + siz p := by
  show (_ :: subs p).length = _
  rw [List.length_cons]
  unfold siz
  omega
theorem siz_less (p : Pat) : siz (.less p) = 1 + siz p := siz_more p
theorem siz_group (n : Int) (p : Pat) : siz (.group n p) = 1 + siz p := siz_more p
/-! ### twins, empty rounds -/
theorem firstMet_full {ns : List Int} : ∀ {i : Nat}, i ≤ ns.length → (firstMet (fun i => ns.getD i 0) i).length = i → firstMet (fun i => ns.getD i 0) i = ns.take i ∧ (ns.take i).Nodup
  | 0, _, _ => ⟨rfl, by rw [List.take_zero]; exact List.nodup_nil⟩
  | i + 1, hi, h => by
    have hlt : i < ns.length := hi
    have hle := firstMet_length_le (fun i => ns.getD i 0) i
    have e1 : ns.getD i 0 = ns[i] := by
      rw [List.getD_eq_getElem?_getD, List.getElem?_eq_getElem hlt] <;> rfl
    have e2 : ns.take (i + 1) = ns.take i ++ [ns[i]] := by
      rw [List.take_add_one, List.getElem?_eq_getElem hlt] <;> rfl
    rw [firstMet_succ] at h ⊢
    unfold step_dedup at h ⊢
    by_cases c : (firstMet (fun i => ns.getD i 0) i).any (· == ns.getD i 0) = true
    · rw [if_pos c] at h
      omega
    · rw [if_neg c] at h ⊢
      rw [List.length_append, List.length_singleton] at h
      obtain ⟨q1, q2⟩ := firstMet_full (ns := ns) (i := i) (by omega) (by omega)
      rw [q1] at c ⊢
      rw [e1] at c ⊢
      rw [e2]
      refine ⟨rfl, ?_⟩
      rw [List.nodup_append]
      refine ⟨q2, by simp, fun a ha b hb => ?_⟩
      obtain rfl := List.mem_singleton.mp hb
      intro e
      exact c (List.any_eq_true.mpr ⟨a, ha, by rw [e]; exact beq_self_eq_true _⟩)
theorem twins_iff (ns : List Int) : ((firstMet (fun i => ns.getD i 0) ns.length).length : Int) < (ns.length : Int) ↔ ¬ ns.Nodup := by
  have hle := firstMet_length_le (fun i => ns.getD i 0) ns.length
  constructor
  · intro h hn
    rw [RZ.firstMet_nodup hn ns.length (Nat.le_refl _), List.take_length] at h
    omega
  · intro h
    by_cases e : (firstMet (fun i => ns.getD i 0) ns.length).length = ns.length
    · have := (firstMet_full (Nat.le_refl _) e).2
      rw [List.take_length] at this
      exact absurd this h
    · omega
/-- for each more and less: whether its p may take nothing -/
def erl (L : List Pat) : List Bool := L.filterMap fun x => match x with
  | .more q => some (nul q)
  | .less q => some (nul q)
  | _ => none
theorem next_part : ∀ (p : Pat) (R : List Pat) (i : Nat) (q : Pat), i < siz p → ((subs p ++ R)[i]? = some (.more q) ∨ (subs p ++ R)[i]? = some (.less q)) → (subs p ++ R)[i + 1]? = some q
  | .sign c, R, i, q, hi, h => by
    obtain rfl : i = 0 := by have : i < 1 := hi; omega
    rcases h with h | h <;> exact nomatch Option.some.inj h
  | .any, R, i, q, hi, h => by
    obtain rfl : i = 0 := by have : i < 1 := hi; omega
    rcases h with h | h <;> exact nomatch Option.some.inj h
  | .none, R, i, q, hi, h => by
    obtain rfl : i = 0 := by have : i < 1 := hi; omega
    rcases h with h | h <;> exact nomatch Option.some.inj h
  | .row p1 p2, R, i, q, hi, h => by
    rw [siz_row] at hi
    have e : subs (.row p1 p2) ++ R = .row p1 p2 :: (subs p1 ++ (subs p2 ++ R)) := by
      show (_ :: (subs p1 ++ subs p2)) ++ R = _
      rw [List.cons_append, List.append_assoc]
    rw [e] at h ⊢
    cases i with
    | zero => rcases h with h | h <;> exact nomatch Option.some.inj h
    | succ j =>
      rw [List.getElem?_cons_succ] at h ⊢
      by_cases hj : j < siz p1
      · exact next_part p1 _ j q hj h
      · have hl : (subs p1).length = siz p1 := rfl
        rw [List.getElem?_append_right (by omega)] at h ⊢
        have e2 : j + 1 - (subs p1).length = (j - (subs p1).length) + 1 := by omega
        rw [e2]
        exact next_part p2 R _ q (by omega) h
  | .or p1 p2, R, i, q, hi, h => by
    rw [siz_or] at hi
    have e : subs (.or p1 p2) ++ R = .or p1 p2 :: (subs p1 ++ (subs p2 ++ R)) := by
      show (_ :: (subs p1 ++ subs p2)) ++ R = _
      rw [List.cons_append, List.append_assoc]
    rw [e] at h ⊢
    cases i with
    | zero => rcases h with h | h <;> exact nomatch Option.some.inj h
    | succ j =>
      rw [List.getElem?_cons_succ] at h ⊢
      by_cases hj : j < siz p1
      · exact next_part p1 _ j q hj h
      · have hl : (subs p1).length = siz p1 := rfl
        rw [List.getElem?_append_right (by omega)] at h ⊢
        have e2 : j + 1 - (subs p1).length = (j - (subs p1).length) + 1 := by omega
        rw [e2]
        exact next_part p2 R _ q (by omega) h
  | .more p, R, i, q, hi, h => by
    rw [siz_more] at hi
    have e : subs (.more p) ++ R = .more p :: (subs p ++ R) := rfl
    rw [e] at h ⊢
    cases i with
    | zero =>
      rcases h with h | h
      · cases Option.some.inj h
        rw [subs_eq]
        rfl
      · exact nomatch Option.some.inj h
    | succ j =>
      rw [List.getElem?_cons_succ] at h ⊢
      exact next_part p R j q (by omega) h
  | .less p, R, i, q, hi, h => by
    rw [siz_less] at hi
    have e : subs (.less p) ++ R = .less p :: (subs p ++ R) := rfl
    rw [e] at h ⊢
    cases i with
    | zero =>
      rcases h with h | h
      · exact nomatch Option.some.inj h
      · cases Option.some.inj h
        rw [subs_eq]
        rfl
    | succ j =>
      rw [List.getElem?_cons_succ] at h ⊢
      exact next_part p R j q (by omega) h
  | .group n p, R, i, q, hi, h => by
    rw [siz_group] at hi
    have e : subs (.group n p) ++ R = .group n p :: (subs p ++ R) := rfl
    rw [e] at h ⊢
    cases i with
    | zero => rcases h with h | h <;> exact nomatch Option.some.inj h
    | succ j =>
      rw [List.getElem?_cons_succ] at h ⊢
      exact next_part p R j q (by omega) h
theorem next_part' {p q : Pat} {i : Nat} (h : (subs p)[i]? = some (.more q) ∨ (subs p)[i]? = some (.less q)) : (subs p)[i + 1]? = some q := by
  have hi : i < siz p := by
    rcases h with h | h
    · exact (List.getElem?_eq_some_iff.mp h).1
    · exact (List.getElem?_eq_some_iff.mp h).1
  have q' := next_part p [] i q hi
  rw [List.append_nil] at q'
  exact q' h
/-- a pattern that is not refused -/
def goodP (p : Pat) : Prop := (nums (subs p)).Nodup ∧ (erl (subs p)).any id = false
end Gm

set_option maxRecDepth 100000
set_option maxHeartbeats 4000000
namespace Gm
open PySem PySem.Spec PyProof.Rows L2
/-! ### `type(x) != T`, `type(x) == T`, of two built-in types, the same or not -/
section
variable {prog : Program} {w : World} {A : Around} {E : Value → Shared → Prop} {s : Shared}
theorem ne_entry_other {X Y : String} (hX : ∀ s' : Shared, s'.TypeIs (.type X) "type") (hne : (Value.type X == Value.type Y) = false) {Q : Fin → Shared → Prop} (hq : Q (.done (.ret .notImplemented)) s) :
    wpAny (model prog w) A (Builtin.«object.__ne__» ⟨[.type X, .type Y], []⟩) Q E s := by
  unfold Builtin.«object.__ne__»
  repeat (first
    | with_reducible refine wpAny_cRoomFor_or (.inl rfl) ?_
    | (refine wpAny_bind (m := callSpecialIfBound? (.type X) (Str.ofString "__eq__") [.type Y]) (wpAny_callSpecialIfBound?_slot (hX _) TypeEq.slot_type_eq
        (call_gives TypeEq.slot_type_eq (hX _) F.entry_object_eq (F.args_object_eq_2 _ _) (TypeEq.object_eq_other rfl hne) ?_)))
    | wp_step)
  exact show wpAny (model prog w) A (ret Value.notImplemented) Q E s from wpAny_pure hq
theorem wpAny_richCompare_ne_same_decline {M : Model} {a b : Value} {T id : String} {k : Bool} {Q : Value → Shared → Prop} (ha : ∀ s' : Shared, s'.TypeIs a T) (hb : ∀ s' : Shared, s'.TypeIs b T)
    (h1 : Slot T (cmpInfo .NotEq).2.1 id) (h2 : Slot T (cmpInfo .NotEq).2.2 id) (hv : [a, b].any Value.onHeap = false) (hk : isSame a b = pure k)
    (hc : wpAny M A (call (.builtin id) [a, b]) (fun v s₁ => v = .notImplemented ∧ wpAny M A (call (.builtin id) [b, a]) (fun v s₂ => v = .notImplemented ∧ Q (.bool (!k)) s₂) E s₁) E s) :
    wpAny M A (richCompare .NotEq a b) Q E s := by
  rcases hi : cmpInfo CmpOp.NotEq with ⟨sym, f, r⟩
  rw [hi] at h1 h2
  simp only [richCompare, hi, (ha s).oneThing_none]
  try with_reducible refine wpAny_holding ?_
  refine wpAny_bind (wpAny_cRoomFor_or (.inl hv) ?_)
  refine wpAny_bind (wpAny_typeOf (ha s) (wpAny_bind (wpAny_typeOf (hb s) ?_)))
  simp only [bne_self_eq_false, Bool.false_eq_true, if_false, pure_bind, Bool.not_false, if_true]
  refine wpAny_bind (m := tryCompare a _ b) (wpAny_tryCompare_declines (ha s) h1 (wpAny_mono hc (fun v s₁ h₁ => ⟨h₁.1, ?_⟩) fun _ _ x => x))
  refine wpAny_bind (m := tryCompare b _ a) (wpAny_tryCompare_declines (hb s₁) h2 (wpAny_mono h₁.2 (fun v s₂ h₂ => ⟨h₂.1, ?_⟩) fun _ _ x => x))
  refine wpAny_bind (wpAny_rule (wpAny_bind (wpAny_of_eq hk (wpAny_pure h₂.2))))
theorem ne_type_other {X Y : String} (hX : ∀ s' : Shared, s'.TypeIs (.type X) "type") (hY : ∀ s' : Shared, s'.TypeIs (.type Y) "type") (hne : (Value.type X == Value.type Y) = false) {Q : Value → Shared → Prop} (h : Q (.bool true) s) :
    wpAny (model prog w) A (compareOp .NotEq (.type X) (.type Y)) Q E s := by
  have hne' : (Value.type Y == Value.type X) = false := by
    rw [Bool.eq_false_iff] at hne ⊢
    intro e
    exact hne (by rw [beq_iff_eq] at e ⊢; exact e.symm)
  show wpAny _ A (richCompare .NotEq _ _) Q E s
  refine wpAny_richCompare_ne_same_decline (T := "type") (k := false) hX hY slot_type_ne slot_type_ne_refl rfl (by rw [isSame_plain rfl, hne]) ?_
  refine wpAny_call (codeAny_call_builtin slot_type_ne.plain F.cmpEntry_ne (slot_type_ne.check _ _ _ _ _ _ _ _ (hX s) (F.cmpArgs_ne _ _) (ne_entry_other hX hne ⟨rfl, ?_⟩)))
  refine wpAny_call (codeAny_call_builtin slot_type_ne.plain F.cmpEntry_ne (slot_type_ne.check _ _ _ _ _ _ _ _ (hY s) (F.cmpArgs_ne _ _) (ne_entry_other hY hne' ⟨rfl, h⟩)))
end
def Meta (T : String) : Prop := ∀ s' : Shared, s'.TypeIs (.type T) "type"
section
variable {X : Cx}
theorem op_neTyG {T : String} (hT : Meta T) : OpR X (compareOp .NotEq) (fun x y H Q => ∃ S, x = .ty S ∧ Meta S ∧ y = .ty T ∧ Q (.bl (decide (S ≠ T))) H) := by
  intro pins s σ H x y v u Q I rx ry h
  obtain ⟨S, rfl, hS, rfl, q⟩ := h
  cases (show v = Value.type S from rx)
  cases (show u = Value.type T from ry)
  by_cases e : S = T
  · subst e
    exact ne_type_same hT (fin_bl I q (by simp))
  · exact ne_type_other hS hT (beq_eq_false_iff_ne.mpr fun z => e (Value.type.inj z)) (fin_bl I q (by simp [e]))
theorem op_eqTyG {T : String} (hT : Meta T) : OpR X (compareOp .Eq) (fun x y H Q => ∃ S, x = .ty S ∧ Meta S ∧ y = .ty T ∧ Q (.bl (decide (S = T))) H) := by
  intro pins s σ H x y v u Q I rx ry h
  obtain ⟨S, rfl, hS, rfl, q⟩ := h
  cases (show v = Value.type S from rx)
  cases (show u = Value.type T from ry)
  by_cases e : S = T
  · subst e
    exact TypeEq.eq_type_same hT (fin_bl I q (by simp))
  · exact TypeEq.eq_type_other hS hT (beq_eq_false_iff_ne.mpr fun z => e (Value.type.inj z)) (fin_bl I q (by simp [e]))
end

/-! ### things of a known type, which they keep -/
inductive KT (K : PySem.W.Frag) (H : Hp) : V → String → Prop where
  | non : KT K H .non "NoneType"
  | bl (b : Bool) : KT K H (.bl b) "bool"
  | int (i : Int) : KT K H (.int i) "int"
  | str (x : Str) : KT K H (.str x) "str"
  | lst {a : Addr} {xs : List V} (h : H a = some (.lst xs)) : KT K H (.ref a) "list"
  | tup {a : Addr} {xs : List V} (h : SqT K H a xs) : KT K H (.ref a) "tuple"
  | dK {a : Addr} {kvs : List (Key × V)} (h : H a = some (.dK kvs)) : KT K H (.ref a) "dict"
section
variable {K : PySem.W.Frag}
theorem KT.ty {H : Hp} {v : V} {T : String} (t : KT K H v T) : TyB K H v T := by
  cases t with
  | non => exact .non
  | bl b => exact .bl b
  | int i => exact .int i
  | str x => exact .str x
  | lst h => exact .lst (SqL.of h)
  | tup h => exact .tup h
  | dK h => exact .dK h
theorem KT.meta {H : Hp} {v : V} {T : String} (t : KT K H v T) : Meta T := by
  cases t
  · exact TypeEq.meta_NoneType
  · exact TypeEq.meta_bool
  · exact TypeEq.meta_int
  · exact TypeEq.meta_str
  · exact TypeEq.meta_list
  · exact TypeEq.meta_tuple
  · exact TypeEq.meta_dict
/-- tuples and dicts as they were, lists are lists still -/
structure TL (K : PySem.W.Frag) (H H' : Hp) : Prop where
  ts : TS K H H'
  l : ∀ a xs, H a = some (.lst xs) → ∃ ys, H' a = some (.lst ys)
  d : ∀ a (kvs : List (Key × V)), H a = some (.dK kvs) → H' a = some (.dK kvs)
theorem TL.of {H H' : Hp} (e : Same H H') : TL K H H' := ⟨TS.of e, fun a xs h => ⟨xs, e _ _ h⟩, fun a k h => e _ _ h⟩
theorem TL.trans {H H1 H2 : Hp} (a : TL K H H1) (b : TL K H1 H2) : TL K H H2 := ⟨a.ts.trans b.ts, fun x xs h => by
  obtain ⟨ys, h1⟩ := a.l x xs h
  exact b.l x ys h1, fun x k h => b.d x k (a.d x k h)⟩
theorem TL.lst {H : Hp} {l : Addr} {xs ys : List V} (h : H l = some (.lst xs)) : TL K H (upd H l (.lst ys)) := ⟨TS.lst h, fun a zs q => by
  by_cases e : a = l
  · exact ⟨ys, by rw [e]; exact upd_same⟩
  · exact ⟨zs, by rw [upd_ne e]; exact q⟩, fun a k q => by
  have e : a ≠ l := fun e => by
    rw [e, h] at q
    cases q
  rw [upd_ne e]
  exact q⟩
theorem TL.new {H : Hp} {p : Addr} {o : HO} (h : H p = none) : TL K H (upd H p o) := TL.of (same_new h)
theorem KT.mono {H H' : Hp} {v : V} {T : String} (e : TL K H H') (t : KT K H v T) : KT K H' v T := by
  cases t with
  | non => exact .non
  | bl b => exact .bl b
  | int i => exact .int i
  | str x => exact .str x
  | lst h =>
    obtain ⟨ys, h1⟩ := e.l _ _ h
    exact .lst h1
  | tup h => exact .tup (e.ts _ _ h)
  | dK h => exact .dK (e.d _ _ h)
end
/-! ### the lengths -/
def lenOf (z : Str) : Option Int :=
  if z = "sign" then some 2 else if z = "any" then some 1 else if z = "none" then some 1 else if z = "row" then some 3 else if z = "or" then some 3
  else if z = "more" then some 2 else if z = "less" then some 2 else if z = "group" then some 3 else none
def KeysOf (P : Str → Prop) : List DictEntry → Prop
  | [] => True
  | e :: r => (∃ x t, e.key = .str x t ∧ P x) ∧ KeysOf P r
theorem nsIn_no {K : PySem.W.Frag} {P : Str → Prop} {a : Addr} {es : Array DictEntry} {n : Nat} (hl : K.lookup a = some ⟨.type "dict", none, .dict es n, #[]⟩) (hk : KeysOf P es.toList) {z : Str} (hz : ¬ P z) : PySem.W.nsIn K a z = some none := by
  have h1 : ∀ l : List DictEntry, KeysOf P l → l.find? (·.key.isStr z) = none ∧ l.any (·.refKey) = false := by
    intro l
    induction l with
    | nil => exact fun _ => ⟨rfl, rfl⟩
    | cons e r ih =>
      rintro ⟨⟨x, t, ek, px⟩, hr⟩
      obtain ⟨i1, i2⟩ := ih hr
      have ne : ¬ x = z := fun q => hz (q ▸ px)
      refine ⟨?_, ?_⟩
      · rw [List.find?_cons, ek]
        have : (Value.str x t).isStr z = false := by
          unfold Value.isStr
          simp [ne]
        rw [this]
        exact i1
      · rw [List.any_cons, i2, Bool.or_false]
        unfold DictEntry.refKey
        rw [ek]
  unfold PySem.W.nsIn
  rw [hl]
  show (match es.toList.find? (·.key.isStr z) with | some e => some (some e.val) | none => if es.toList.any (·.refKey) then none else some none) = some none
  rw [(h1 _ hk).1, (h1 _ hk).2]
  rfl
/-! ### things that are no pattern -/
def isSg : V → Bool
  | .str z => decide (z.length = 1)
  | _ => false
def isNo : V → Bool
  | .int n => decide (1 ≤ n)
  | _ => false
inductive BadV (K : PySem.W.Frag) (H : Hp) : V → Prop where
  | other {v : V} {T : String} (t : KT K H v T) (ne : T ≠ "tuple") : BadV K H v
  | empty {a : Addr} (h : SqT K H a []) : BadV K H (.ref a)
  | name {a : Addr} {x : V} {xs : List V} {T : String} (h : SqT K H a (x :: xs)) (t : KT K H x T) (ne : T ≠ "str") : BadV K H (.ref a)
  | len {a : Addr} {z : Str} {xs : List V} (h : SqT K H a (.str z :: xs)) (ne : lenOf z ≠ some ((xs.length + 1 : Nat) : Int)) : BadV K H (.ref a)
  | sign {a : Addr} {x : V} {T : String} (h : SqT K H a [.str "sign", x]) (t : KT K H x T) (zs : ∀ z, x = .str z → z.length ≤ 1000) (no : isSg x = false) : BadV K H (.ref a)
  | group {a : Addr} {x y : V} {T : String} (h : SqT K H a [.str "group", x, y]) (t : KT K H x T) (no : isNo x = false) : BadV K H (.ref a)
section
variable {K : PySem.W.Frag}
theorem BadV.mono {H H' : Hp} {v : V} (e : TL K H H') (b : BadV K H v) : BadV K H' v := by
  cases b with
  | other t ne => exact .other (t.mono e) ne
  | empty h => exact .empty (e.ts _ _ h)
  | name h t ne => exact .name (e.ts _ _ h) (t.mono e) ne
  | len h ne => exact .len (e.ts _ _ h) ne
  | sign h t zs no => exact .sign (e.ts _ _ h) (t.mono e) zs no
  | group h t no => exact .group (e.ts _ _ h) (t.mono e) no
end
/-! ### patterns of which some parts are none -/
inductive PT where
  | ok (p : Pat) | bad | row (p q : PT) | or (p q : PT) | more (p : PT) | less (p : PT) | group (n : Int) (p : PT)
def thas : PT → Bool
  | .ok _ => false
  | .bad => true
  | .row p q => thas p || thas q
  | .or p q => thas p || thas q
  | .more p => thas p
  | .less p => thas p
  | .group _ p => thas p
def tsz : PT → Nat
  | .ok p => siz p
  | .bad => 1
  | .row p q => 1 + (tsz p + tsz q)
  | .or p q => 1 + (tsz p + tsz q)
  | .more p => 1 + tsz p
  | .less p => 1 + tsz p
  | .group _ p => 1 + tsz p
def tkids : PT → List PT
  | .ok p => (kids p).map .ok
  | .bad => []
  | .row p q => [p, q]
  | .or p q => [p, q]
  | .more p => [p]
  | .less p => [p]
  | .group _ p => [p]
/-- a pattern of the same head -/
def thd : PT → Pat
  | .ok p => p
  | .bad => .none
  | .row _ _ => .row .none .none
  | .or _ _ => .or .none .none
  | .more _ => .more .none
  | .less _ => .less .none
  | .group n _ => .group n .none
inductive TAt (K : PySem.W.Frag) (H : Hp) : PT → V → Prop where
  | ok {p : Pat} {v : V} (h : PAt K H p v) : TAt K H (.ok p) v
  | bad {v : V} (h : BadV K H v) : TAt K H .bad v
  | row {a : Addr} {p q : PT} {x y : V} (h : SqT K H a [.str "row", x, y]) (hp : TAt K H p x) (hq : TAt K H q y) : TAt K H (.row p q) (.ref a)
  | or {a : Addr} {p q : PT} {x y : V} (h : SqT K H a [.str "or", x, y]) (hp : TAt K H p x) (hq : TAt K H q y) : TAt K H (.or p q) (.ref a)
  | more {a : Addr} {p : PT} {x : V} (h : SqT K H a [.str "more", x]) (hp : TAt K H p x) : TAt K H (.more p) (.ref a)
  | less {a : Addr} {p : PT} {x : V} (h : SqT K H a [.str "less", x]) (hp : TAt K H p x) : TAt K H (.less p) (.ref a)
  | group {a : Addr} {n : Int} {p : PT} {x : V} (h : SqT K H a [.str "group", .int n, x]) (hn : 1 ≤ n) (hp : TAt K H p x) : TAt K H (.group n p) (.ref a)
/-- a thing whose head is that of p, with ws for its inner ones -/
def Nod (K : PySem.W.Frag) (H : Hp) (p : Pat) (ws : List V) (v : V) : Prop :=
  ∃ a, v = .ref a ∧ SqT K H a (.str (nm p) :: (mid p ++ ws)) ∧ (kids p).length = ws.length ∧ ∀ n q, p = .group n q → 1 ≤ n
section
variable {K : PySem.W.Frag}
theorem PAt.nod {H : Hp} {p : Pat} {v : V} (h : PAt K H p v) : ∃ ws, Nod K H p ws v ∧ PAts K H (kids p) ws := by
  obtain ⟨a, ws, e, ht, hk⟩ := h.node
  exact ⟨ws, ⟨a, e, ht, Paired.length hk, fun n q e => by
    rw [e] at h
    exact h.num⟩, hk⟩
theorem TAt.mono {H H' : Hp} {t : PT} {v : V} (e : TL K H H') (h : TAt K H t v) : TAt K H' t v := by
  induction h with
  | ok h => exact .ok (h.mono e.ts)
  | bad h => exact .bad (h.mono e)
  | row h _ _ i j => exact .row (e.ts _ _ h) i j
  | or h _ _ i j => exact .or (e.ts _ _ h) i j
  | more h _ i => exact .more (e.ts _ _ h) i
  | less h _ i => exact .less (e.ts _ _ h) i
  | group h n _ i => exact .group (e.ts _ _ h) n i
theorem pts_of {H : Hp} : ∀ {L : List Pat} {ws : List V}, PAts K H L ws → Paired (TAt K H) (L.map PT.ok) ws
  | _, _, .nil => .nil
  | _, _, .cons a t => .cons (.ok a) (pts_of t)
theorem TAt.nod {H : Hp} {t : PT} {v : V} (h : TAt K H t v) : (t = .bad ∧ BadV K H v) ∨ (t ≠ .bad ∧ ∃ ws, Nod K H (thd t) ws v ∧ Paired (TAt K H) (tkids t) ws) := by
  cases h with
  | ok h =>
    obtain ⟨ws, n, k⟩ := h.nod
    exact .inr ⟨(fun e => by cases e), ws, n, pts_of k⟩
  | bad h => exact .inl ⟨rfl, h⟩
  | row h hp hq => exact .inr ⟨(fun e => by cases e), [_, _], ⟨_, rfl, h, rfl, (fun _ _ e => by cases e)⟩, .cons hp (.cons hq .nil)⟩
  | or h hp hq => exact .inr ⟨(fun e => by cases e), [_, _], ⟨_, rfl, h, rfl, (fun _ _ e => by cases e)⟩, .cons hp (.cons hq .nil)⟩
  | more h hp => exact .inr ⟨(fun e => by cases e), [_], ⟨_, rfl, h, rfl, (fun _ _ e => by cases e)⟩, .cons hp .nil⟩
  | less h hp => exact .inr ⟨(fun e => by cases e), [_], ⟨_, rfl, h, rfl, (fun _ _ e => by cases e)⟩, .cons hp .nil⟩
  | group h hn hp => exact .inr ⟨(fun e => by cases e), [_], ⟨_, rfl, h, rfl, (fun n q e => by cases e; exact hn)⟩, .cons hp .nil⟩
/-- how much is still to be looked at -/
def tszs (W : List PT) : Nat := (W.map tsz).sum
theorem tsz_pos (t : PT) : 0 < tsz t := by
  cases t with
  | ok p => exact siz_pos p
  | _ => unfold tsz; omega
theorem tszs_pos (W : List PT) : W.length ≤ tszs W := by
  induction W with
  | nil => exact Nat.le_refl _
  | cons t W ih =>
    unfold tszs at ih ⊢
    rw [List.map_cons, List.sum_cons, List.length_cons]
    have := tsz_pos t
    omega
theorem tszs_kids {t : PT} (h : t ≠ .bad) : tsz t = 1 + tszs (tkids t) := by
  cases t with
  | ok p =>
    show siz p = 1 + (((kids p).map PT.ok).map tsz).sum
    unfold siz
    rw [subs_eq, List.length_cons]
    have : ∀ L : List Pat, (subsL L).length = ((L.map PT.ok).map tsz).sum := by
      intro L
      induction L with
      | nil => rfl
      | cons q L ih =>
        rw [subsL_cons, List.length_append, List.map_cons, List.map_cons, List.sum_cons, ih]
        rfl
    rw [this]
    omega
  | bad => exact absurd rfl h
  | row p q => unfold tsz tkids tszs; simp
  | or p q => unfold tsz tkids tszs; simp
  | more p => unfold tsz tkids tszs; simp
  | less p => unfold tsz tkids tszs; simp
  | group n p => unfold tsz tkids tszs; simp
theorem thas_kids {t : PT} (h : t ≠ .bad) (b : thas t = true) : (tkids t).any thas = true := by
  cases t with
  | ok p => exact absurd b (by unfold thas; simp)
  | bad => exact absurd rfl h
  | row p q => unfold tkids; simpa [thas] using b
  | or p q => unfold tkids; simpa [thas] using b
  | more p => unfold tkids; simpa [thas] using b
  | less p => unfold tkids; simpa [thas] using b
  | group n p => unfold tkids; simpa [thas] using b
end
theorem l0 {ws : List V} (h : 0 = ws.length) : ws = [] := List.length_eq_zero_iff.mp h.symm
theorem l1 {ws : List V} (h : 1 = ws.length) : ∃ x, ws = [x] := by
  match ws, h with
  | [x], _ => exact ⟨x, rfl⟩
theorem l2 {ws : List V} (h : 2 = ws.length) : ∃ x y, ws = [x, y] := by
  match ws, h with
  | [x, y], _ => exact ⟨x, y, rfl⟩
end Gm

set_option maxRecDepth 100000
set_option maxHeartbeats 4000000
/-! walks while an exception is handled -/
namespace Gm
open PySem PySem.Spec PyProof.Rows HotX
section
variable {prog : Program} {w : World} {A : Around} {E : Value → Shared → Prop} {s : Shared}
theorem next_list_end_hot {it l x1 : Addr} {i : Nat} {items : Array Value} {Q : Option Value → Shared → Prop} (hot : HotAt A x1 s.heap) (hxi : x1 ≠ it)
    (hit : s.heap.IsListIter it l i) (hl : s.heap.IsList l items) (hx : items[i]? = none)
    (hQ : ∀ h', Heap.ExtBut it s.heap h' → Q none { s with heap := h' }) : wpAny (model prog w) A (pyNext (.ref it)) Q E s := by
  obtain ⟨o, ho, hc, hd⟩ := id hit
  obtain ⟨ol, hol, _, nl, hdl⟩ := hl
  obtain ⟨hh, o1, vs1, h1, d1, c1⟩ := hot
  unfold pyNext
  refine wpAny_bind (wpAny_attempt (wpAny_callSpecial?_slot (name := Str.ofString "__next__") hit.typeIs slot_listiter_next
    (wpAny_call_entry slot_listiter_next hit.typeIs entry_listiter_next ?_ (args_listiter_next _))))
  show wpAny _ _ (field (.ref it) 0 >>= _) _ _ s
  refine wpAny_bind (wpAny_field ho hd (x := .ref l) rfl ?_)
  show wpAny _ _ (if (Value.ref l == Value.none) = true then _ else _) _ _ s
  rw [if_neg (show ¬ ((Value.ref l == Value.none) = true) from Bool.false_ne_true)]
  show wpAny _ _ (field (.ref it) 1 >>= _) _ _ s
  refine wpAny_bind (wpAny_field ho hd (x := .int i 0) rfl ?_)
  show wpAny _ _ (seqItems? (.ref l) >>= _) _ _ s
  refine wpAny_bind (wpAny_seqItems hol hdl ?_)
  simp only [Int.toNat_natCast, hx]
  refine wpAny_bind (wpAny_rule (wpAny_bind (wpAny_setField ho hd (by simp) ?_)))
  show wpAny _ _ (newExc (.type "StopIteration") [] >>= _) _ _ _
  refine wpAny_bind ?_
  simp only [newExc, newTuple]
  refine wpAny_bind (wpAny_newObj_type ?_ (by size_fits))
  refine wpAny_bind (m := firstArgMember _ _) (wpAny_of_eq (a := Value.none) (by first | rfl | (simp only [firstArgMember]; rfl)) ?_)
  refine wpAny_newObj_type ?_ (by size_fits)
  have hu := Heap.SameBut.update s.heap it (Obj.mapFields (·.setIfInBounds 0 .none))
  have h1' := (hu.extBut) x1 o1 hxi h1
  refine raiseNew_hot ⟨hh, o1, vs1, Heap.get?_push_of_some _ (Heap.get?_push_of_some _ h1'), d1, c1⟩ (Nat.ne_of_lt (Heap.lt_size (Heap.get?_push_of_some _ h1'))) (Heap.get?_push_size _ rfl) rfl (by first | (simp; done) | (simp; omega) | (simp only [Array.size_append]; simp; omega)) ?_
  refine wpAny_bind (wpAny_isInstance (T := "StopIteration") (b := true) ⟨_, Heap.get?_update_self _ (Heap.get?_push_size _ rfl) rfl, rfl⟩ isSubtype_stop ?_)
  refine wpAny_pure (hQ _ fun b o hb e => ?_)
  have e1 := hu.extBut b o hb e
  rw [Heap.get?_update_other _ _ (Nat.ne_of_gt (Heap.lt_size (Heap.get?_push_of_some _ e1)))]
  exact Heap.get?_push_of_some _ (Heap.get?_push_of_some _ e1)
theorem next_tuple_end_hot {it t x1 : Addr} {i : Nat} {items : Array Value} {Q : Option Value → Shared → Prop} (hot : HotAt A x1 s.heap) (hxi : x1 ≠ it)
    (hit : IsTupIter s.heap it t i) (ht : IsTup s.heap t items) (hx : items[i]? = none)
    (hQ : ∀ h', Heap.ExtBut it s.heap h' → Q none { s with heap := h' }) : wpAny (model prog w) A (pyNext (.ref it)) Q E s := by
  obtain ⟨o, ho, hc, hd⟩ := id hit
  obtain ⟨ol, hol, _, nl, hdl⟩ := ht
  obtain ⟨hh, o1, vs1, h1, d1, c1⟩ := hot
  unfold pyNext
  refine wpAny_bind (wpAny_attempt (wpAny_callSpecial?_slot (name := Str.ofString "__next__") hit.typeIs slot_tupleiter_next
    (wpAny_call_entry slot_tupleiter_next hit.typeIs entry_tupleiter_next ?_ (args_tupleiter_next _))))
  show wpAny _ _ (field (.ref it) 0 >>= _) _ _ s
  refine wpAny_bind (wpAny_field ho hd (x := .ref t) rfl ?_)
  show wpAny _ _ (if (Value.ref t == Value.none) = true then _ else _) _ _ s
  rw [if_neg (show ¬ ((Value.ref t == Value.none) = true) from Bool.false_ne_true)]
  show wpAny _ _ (field (.ref it) 1 >>= _) _ _ s
  refine wpAny_bind (wpAny_field ho hd (x := .int i 0) rfl ?_)
  show wpAny _ _ (seqItems? (.ref t) >>= _) _ _ s
  refine wpAny_bind (wpAny_seqItems hol hdl ?_)
  simp only [Int.toNat_natCast, hx]
  refine wpAny_bind (wpAny_rule (wpAny_bind (wpAny_setField ho hd (by simp) ?_)))
  show wpAny _ _ (newExc (.type "StopIteration") [] >>= _) _ _ _
  refine wpAny_bind ?_
  simp only [newExc, newTuple]
  refine wpAny_bind (wpAny_newObj_type ?_ (by size_fits))
  refine wpAny_bind (m := firstArgMember _ _) (wpAny_of_eq (a := Value.none) (by first | rfl | (simp only [firstArgMember]; rfl)) ?_)
  refine wpAny_newObj_type ?_ (by size_fits)
  have hu := Heap.SameBut.update s.heap it (Obj.mapFields (·.setIfInBounds 0 .none))
  have h1' := (hu.extBut) x1 o1 hxi h1
  refine raiseNew_hot ⟨hh, o1, vs1, Heap.get?_push_of_some _ (Heap.get?_push_of_some _ h1'), d1, c1⟩ (Nat.ne_of_lt (Heap.lt_size (Heap.get?_push_of_some _ h1'))) (Heap.get?_push_size _ rfl) rfl (by first | (simp; done) | (simp; omega) | (simp only [Array.size_append]; simp; omega)) ?_
  refine wpAny_bind (wpAny_isInstance (T := "StopIteration") (b := true) ⟨_, Heap.get?_update_self _ (Heap.get?_push_size _ rfl) rfl, rfl⟩ isSubtype_stop ?_)
  refine wpAny_pure (hQ _ fun b o hb e => ?_)
  have e1 := hu.extBut b o hb e
  rw [Heap.get?_update_other _ _ (Nat.ne_of_gt (Heap.lt_size (Heap.get?_push_of_some _ e1)))]
  exact Heap.get?_push_of_some _ (Heap.get?_push_of_some _ e1)
theorem HotAt.ext {x1 it : Addr} {h h' : Heap} (hot : HotAt A x1 h) (k : Heap.ExtBut it h h') (n : x1 ≠ it) : HotAt A x1 h' := by
  obtain ⟨hh, o1, vs1, h1, d1, c1⟩ := hot
  exact ⟨hh, o1, vs1, k _ _ n h1, d1, c1⟩
theorem unpackItems_tuple_hot {t x1 : Addr} {items : Array Value} {Q : List Value → Shared → Prop} (hot : HotAt A x1 s.heap) (ht : IsTup s.heap t items)
    (hQ : ∀ h', Heap.ExtBut s.heap.objs.size s.heap h' → Q items.toList { s with heap := h' }) : wpAny (model prog w) A (unpackItems (.ref t) items.size none) Q E s := by
  have hlt : t ≠ s.heap.objs.size := by obtain ⟨o, ho, _⟩ := ht; exact Nat.ne_of_lt (Heap.lt_size ho)
  have hx1 : x1 ≠ s.heap.objs.size := by obtain ⟨_, o, _, ho, _⟩ := hot; exact Nat.ne_of_lt (Heap.lt_size ho)
  unfold unpackItems
  refine wpAny_bind ?_
  · unfold notIterableAtAll
    refine wpAny_bind (wpAny_specialOf ht.typeIs slot_tuple_iter.lookup ?_)
    refine wpAny_pure ?_
    simp only [Bool.false_eq_true, if_false]
    refine wpAny_bind (wpAny_holding (iter_tuple ht ?_))
    refine wpAny_bind (wpAny_holding (draw_tuple hlt items.size 0 _ _ ⟨_, Heap.get?_push_size _ rfl, rfl, rfl⟩ (ht.push _) (by omega) fun h₁ hit₁ hs₁ => ?_))
    have hall : List.take items.size (List.drop 0 items.toList) = items.toList := by
      rw [List.drop_zero]; exact List.take_of_length_le (by simp)
    rw [hall]
    rw [if_neg (by simp)]
    have ht₁ : IsTup h₁ t items := (ht.push _).extBut hs₁.extBut hlt
    have hot₁ : HotAt A x1 h₁ := by
      obtain ⟨hh, o1, vs1, h1, d1, c1⟩ := hot
      exact ⟨hh, o1, vs1, hs₁.extBut _ _ hx1 (Heap.get?_push_of_some _ h1), d1, c1⟩
    refine wpAny_bind (wpAny_holding (next_tuple_end_hot hot₁ hx1 hit₁ ht₁ (by simp) fun h₂ he₂ => ?_))
    simp only [Option.isSome_none, Bool.false_eq_true, if_false]
    refine wpAny_pure (hQ h₂ fun b o hb e => he₂ b o hb (hs₁.extBut b o hb (Heap.get?_push_of_some _ e)))
theorem assign_Tuple_tuple_hot {env : Env} {elts : List Expr} {k : Nat} {pos : Pos} {t x1 : Addr} {items : Array Value} {Q : Unit → Shared → Prop} (hot : HotAt A x1 s.heap) (ht : IsTup s.heap t items)
    (hn : (assignEach elts env).length = items.size) (hstar : (assignEach elts env).findIdx? (·.1) = none)
    (h : ∀ h', Heap.ExtBut s.heap.objs.size s.heap h' → wpAny (model prog w) A (assignInOrder ((assignEach elts env).map (·.2)) items.toList) Q E { s with heap := h' }) :
    wpAny (model prog w) A (assign (.Tuple elts k pos) env (.ref t)) Q E s := by
  rw [assign_Tuple]
  refine wpAny_bind (wpAny_standAt ?_)
  unfold unpack
  rw [hn, hstar]
  exact wpAny_bind (wpAny_holding (unpackItems_tuple_hot hot ht h))
end
end Gm
namespace Gm
open PySem PySem.Spec PyProof.Rows L2
section
variable {P : Program} {w : World} {K : PySem.W.Frag} {mg : Str → Option Value} {base : Heap}
/-- a def that may raise, what it raises has no context -/
theorem okN {x qual : Str} {st : Stmt} {f : Addr} {fd : FuncData} {N ps : List Str} {k : Nat} {sp : Sp} (F : Fun K x qual st f fd) (S : FnScope N ps (defScope st)) (len : ∀ vs H Q E, sp vs H Q E → vs.length = ps.length)
    (hbody : ∀ (cdv : Value) (A : Around) (outer : List Env) (s : Shared) (H : Hp) (vs : List V) (Q : VK) (E : XK), Room k (A.deeper (envOfC qual (defScope st) s.heap.objs.size f cdv)) → sp vs H Q E →
      ∃ t, PSs (cxOf (L2N.CX P w) P w K mg base N qual (defScope st) f cdv A outer s H E) (defBody st) t ∧ t { nx := fun _ H' => Q .non H', rt := Q } (L2.start N vs) H) : FnOk P w K mg base (L2N.CX P w) (k + 1) f fd ps sp := by
  obtain ⟨oc, od, kV, doc, pm, an, cdv, ct, osl, rfl, lk, hcd⟩ := F.ex
  exact fn_of lk hcd S len fun A outer s H vs Q E hr hsp => hbody cdv A outer s H vs Q E hr hsp
theorem cx_weak {outer : List Env} {H : Hp} {s : Shared} {E : XK} {u : Value} {s' : Shared} (h : L2N.CX P w outer H s E u s') : L2.CX P w outer H s E u s' := by
  obtain ⟨a, B, H', cls, d, e, ⟨k1, k2, k3, oe, vs, T, oT, ts, he, hz, r⟩, q⟩ := h
  exact ⟨a, B, H', cls, d, e, ⟨k1, k2, k3, oe, vs, T, oT, ts, he, hz.zc, r⟩, q⟩
theorem fnX_of {k : Nat} {f : Addr} {fd : FuncData} {ps : List Str} {sp : Sp} (F : FnOk P w K mg base (L2N.CX P w) k f fd ps sp) : FnOk P w K mg base (L2.CX P w) k f fd ps sp :=
  ⟨F.len, fun A outer s H args us vs Q E hr he hb hv hs => codeAny_mono (F.run A outer s H args us vs Q E hr he hb hv hs) fun r s' h => by
    cases r with
    | ok fl =>
      cases fl with
      | ret u => exact h
      | _ => exact h.elim
    | error e => exact cx_weak h⟩
end
end Gm
namespace Gm
open PySem PySem.Spec PyProof.Rows L2 HotX
/-- x1 is handled wherever X's code stands -/
def HotI (X : Cx) (x1 : Addr) : Prop := ∀ (pins : List (Addr × Obj)) (σ : L2.St) (H : Hp) (s : Shared), Inv X pins σ H s → HotAt X.A x1 s.heap ∧ H x1 = none ∧ x1 ≠ X.env.locals ∧ x1 ∉ X.fs
section
variable {X : Cx} {x1 : Addr} {pos : Pos}
theorem hot_suite {a : Addr} {oe : Obj} {pn : List (Addr × Obj)} (hz : PXN.CtxN oe) (hf : ∃ vs, oe.data = .fields vs) : HotI (X.suite a ((a, oe) :: pn)) a := by
  intro pins σ H s I
  obtain ⟨vs, e⟩ := hf
  obtain ⟨h1, h2, h3, h4, _⟩ := I.pin (a, oe) (List.mem_append_left _ List.mem_cons_self)
  exact ⟨⟨rfl, oe, vs, h1, e, hz vs e⟩, h2, h3, h4⟩
theorem hot_blk {pins : List (Addr × Obj)} {σ : L2.St} {H : Hp} {s : Shared} {scope : Scope} {cl : List (Str × Addr)} {fp : List Addr} (hot : HotI X x1) (I : Inv X pins σ H s) (hfp : x1 ∉ fp) :
    HotI (X.blk s H scope (compEnvC scope cl s.heap.objs.size X.env) fp) x1 := by
  intro pins' σ' H' s' I'
  obtain ⟨⟨hh, o1, vs1, h1, d1, c1⟩, n1, n2, n3⟩ := hot pins σ H s I
  have nfs : x1 ∉ frs X.stack := by
    rcases I.ok.stk with e | ⟨e, ef⟩
    · rw [e]
      exact n3
    · rw [e]
      intro hm
      obtain ⟨e1, he1, q⟩ := List.mem_filterMap.mp hm
      rcases List.mem_cons.mp he1 with z | z
      · rw [z, ef] at q
        exact n2 (Option.some.inj q).symm
      · exact n3 (List.mem_filterMap.mpr ⟨e1, z, q⟩)
  refine ⟨⟨hh, o1, vs1, I'.base.keep x1 o1 h1 n1 nfs hfp, d1, c1⟩, I'.base.free x1 o1 h1 n1 hfp, ?_, nfs⟩
  exact Nat.ne_of_lt (Heap.lt_size h1)
theorem pg_tupH {es : List Expr} {k : Nat} {t : TGs} {n : Nat} (hot : HotI X x1) (h : PGs X es t)
    (hn : (assignEach es X.env).length = n := by rfl) (hst : (assignEach es X.env).findIdx? (·.1) = none := by rfl) : PG X (.Tuple es k pos) (gTup X.K n t) := by
  refine ⟨fun pins s σ H v u Q I r hw => ?_⟩
  obtain ⟨a, xs, e1, hq, hl, hw⟩ := hw
  subst e1
  cases r
  obtain ⟨its, rv, ht, hz⟩ := I.tuple hq
  refine assign_Tuple_tuple_hot (hot _ _ _ _ I).1 ht (by simp [hn, ← hl, rv.length]) hst fun h' hx => ?_
  have I1 : Inv X pins σ H { s with heap := h' } := I.kept (t' := s.toks) fun b o e => hx b o (Nat.ne_of_lt (Heap.lt_size e)) e
  exact h.run pins _ σ H xs _ Q I1 (by simpa using rv) hw
theorem item_free {tg : Expr} {pins : List (Addr × Obj)} {s : Shared} {σ : L2.St} {H : Hp} {E : Value → Shared → Prop} {a it : Addr} {i : Nat} (I : Inv X pins σ H s) (hf : ∀ b ∈ [it], FpOk X pins H b) (st : s.heap.IsListIter it a i) (hg : (Itl X.K a).go i H) :
    wpAny (model X.prog X.w) X.A (pyNext (.ref it)) (fun r s1 => ∃ u, r = some u ∧
      wpAny (model X.prog X.w) X.A (letOwnedTupleGo tg (.ref it) u) (fun _ s2 => ∃ x H', Inv X pins σ H' s2 ∧ RelV x u ∧ (Itl X.K a).yld i H x H' ∧ s2.heap.IsListIter it a (i + 1) ∧ ∀ b ∈ [it], H' b = none) E s1) E s := by
  obtain ⟨xs, x, hq, hx⟩ := hg
  obtain ⟨its, rv, p, hz⟩ := I.list hq
  obtain ⟨u, hu, ru⟩ := rv.get hx
  obtain ⟨f0, f1, f2, f3, f4, f5⟩ := hf it (by simp)
  refine wpAny_pyNext_list_item st p.isList (x := u) (by simpa using hu) fun h' st' sb => ?_
  have I1 : Inv X pins σ H { s with heap := h' } := I.turned (t' := s.toks) (fun b o hb e => (sb.2 b hb).trans e) f0 f1 f3 f4 f5
  obtain ⟨o, e, c, d⟩ := id st'
  exact ⟨u, rfl, go_of (s := { s with heap := h' }) e c d (by decide) ⟨x, H, I1, ru, ⟨rfl, fun ys hy => by rw [I.list_inj hy hq]; exact hx⟩, st', fun b hb => (hf b hb).1⟩⟩
theorem done_hot {pins : List (Addr × Obj)} {s : Shared} {σ : L2.St} {H : Hp} {E : Value → Shared → Prop} {a it : Addr} {i : Nat} (hot : HotAt X.A x1 s.heap) (hne : x1 ≠ it) (I : Inv X pins σ H s) (hf : ∀ b ∈ [it], FpOk X pins H b)
    (st : s.heap.IsListIter it a i) (hg : (Itl X.K a).stop i H) : wpAny (model X.prog X.w) X.A (pyNext (.ref it)) (fun r s1 => r = none ∧ Inv X pins σ H s1) E s := by
  obtain ⟨xs, hq, hx⟩ := hg
  obtain ⟨its, rv, p, hz⟩ := I.list hq
  obtain ⟨f0, f1, f2, f3, f4, f5⟩ := hf it (by simp)
  have hl := rv.length
  exact next_list_end_hot hot hne st p.isList (by simp; omega) fun h' eb => ⟨rfl, I.turned (t' := s.toks) (fun b o hb e => eb b o hb e) f0 f1 f3 f4 f5⟩
theorem pe_lcH {elt tg iter : Expr} {ifs : List Expr} {scope : Scope} {own : List (Str × Nat)} {tl : TE} {g : TG} {tt : TT} {te : TE} (hot : HotI X x1) (hN : X.N.Nodup) (hl : PE X iter tl) (ok : BlkOk X.N X.env.scope scope own)
    (hg : ∀ (s : Shared) (H : Hp) (C : Addr) (cl : List (Str × Addr)) (fp : List Addr), HotI (X.blk s H scope (compEnvC scope cl C X.env) fp) x1 → PG (X.blk s H scope (compEnvC scope cl C X.env) fp) tg g)
    (ht : ∀ (s : Shared) (H : Hp) (C : Addr) (cl : List (Str × Addr)) (fp : List Addr), PTs (X.blk s H scope (compEnvC scope cl C X.env) fp) ifs tt)
    (he : ∀ (s : Shared) (H : Hp) (C : Addr) (cl : List (Str × Addr)) (fp : List Addr), PE (X.blk s H scope (compEnvC scope cl C X.env) fp) elt te) (hs : ∀ x, foldedSetIterable iter X.env x = pure x := by intro _; rfl) :
    PE X (.ListComp elt [⟨tg, iter, ifs, 0⟩] scope pos) (tLc (iList X.K tl) g tt te (own.map (·.2))) := by
  refine ⟨fun pins s σ H Q I h => ?_⟩
  rw [eval_ListComp]
  have hfree : ∀ y ∈ scope.names, y.2 = .free → ∃ c, X.env.cells.lookup y.1 = some c := fun y hy e => by
    rcases ok.free y hy e with k | k
    · exact I.ok.has _ (.inl k)
    · exact I.ok.has _ (.inr k)
  refine wpAny_comprehension_free rfl hs (closure_ok hfree) ok.kind (fun y hy e => by rw [ok.uniq y hy, e])
    (thn (hl.run pins s σ H _ I h) fun xv s1 hx => ?_)
  obtain ⟨x, H2, I1, r1, a, e, ⟨xs0, hq0⟩, q⟩ := hx
  subst e
  cases r1
  obtain ⟨its, rv, p, hz⟩ := I1.list hq0
  refine wpAny_pyIter_list p.isList ?_
  generalize hit : s1.heap.objs.size = it
  generalize hs2 : ({ s1 with heap := s1.heap.push { cls := .type "list_iterator", data := .fields #[.ref a, .int 0 0] } } : Shared) = s2
  have I2 : Inv X pins σ H2 s2 := by
    rw [← hs2]
    exact I1.kept (t' := s1.toks) fun b o e => Heap.get?_push_of_some _ e
  have st2 : s2.heap.IsListIter it a 0 := by
    rw [← hs2, ← hit]
    exact ⟨_, Heap.get?_push_size _ rfl, rfl, rfl⟩
  have f2 : ∀ b ∈ [it], FpOk X pins H2 b := fun b hb => by
    have e : b = it := by simpa using hb
    rw [e, ← hit]
    exact I1.fpOk (Nat.le_refl _) (I1.hok.fresh (Nat.le_refl _))
  have T := turn_list (P := X.prog) (w := X.w) (K := X.K) (tg := tg) a it
  have x1lt : x1 ≠ it := by
    obtain ⟨⟨_, o1, _, h1, _⟩, _⟩ := hot _ _ _ _ I1
    rw [← hit]
    exact Nat.ne_of_lt (Heap.lt_size h1)
  have x1fp : x1 ∉ [it] := by simpa using x1lt
  refine wpAny_newObj_type (newEnv_comp ?_) (by show 0 ≤ sizeLine; decide)
  generalize hD : s2.heap.objs.size = D
  have hDn : H2 D = none := I2.hok.fresh (Nat.le_of_eq hD)
  obtain ⟨W, ⟨m0, w0⟩, turn⟩ := q D hDn
  generalize hs3 : ({ s2 with heap := s2.heap.push { cls := .type "list", data := .seq ([] : List Value).toArray } } : Shared) = s3
  have I3 : Inv X pins σ (upd H2 D (.lst [])) s3 := by
    rw [← hs3]
    refine I2.laid (t' := s2.toks) (fun b o e => Heap.get?_push_of_some _ e) (Nat.le_of_eq hD) ⟨Nat.zero_le _, [], 0, .nil, ?_⟩
    rw [← hD]
    exact Heap.get?_push_size _ rfl
  have h3 : s3.heap = s2.heap.push { cls := .type "list", data := .seq ([] : List Value).toArray } := by rw [← hs3]
  have sz : ∀ b ∈ [it], b < s2.heap.objs.size := fun b hb => by
    obtain ⟨o, e, _⟩ := T.obj _ _ st2 b hb
    exact Heap.lt_size e
  have f3 : ∀ b ∈ [it], FpOk X pins (upd H2 D (.lst [])) b ∧ b < s3.heap.objs.size := fun b hb => by
    have hlt := sz b hb
    refine ⟨⟨?_, (f2 b hb).2⟩, by rw [h3, Heap.size_push]; exact Nat.lt_succ_of_lt hlt⟩
    rw [upd_ne (by rw [← hD]; exact Nat.ne_of_lt hlt)]
    exact (f2 b hb).1
  have st3 : s3.heap.IsListIter it a 0 := T.keep _ _ _ st2 fun b _ o e => by rw [h3]; exact Heap.get?_push_of_some _ e
  have I4 := block_start I3 ok hN f3
  have hotB : HotI (X.blk s3 (upd H2 D (.lst [])) scope (compEnvC scope (cellsFrom (s3.heap.objs.size + 1) scope.names (cloFrom X.env.cells scope.names [])) s3.heap.objs.size X.env) [it]) x1 := hot_blk hot I3 x1fp
  have pg := hg s3 (upd H2 D (.lst [])) s3.heap.objs.size (cellsFrom (s3.heap.objs.size + 1) scope.names (cloFrom X.env.cells scope.names [])) [it] hotB
  have pt := ht s3 (upd H2 D (.lst [])) s3.heap.objs.size (cellsFrom (s3.heap.objs.size + 1) scope.names (cloFrom X.env.cells scope.names [])) [it]
  have pe := he s3 (upd H2 D (.lst [])) s3.heap.objs.size (cellsFrom (s3.heap.objs.size + 1) scope.names (cloFrom X.env.cells scope.names [])) [it]
  show codeAny _ _ (.compStart (.ListComp elt [⟨tg, iter, ifs, 0⟩] scope pos) 0 (.ref it) (.ref D) (compEnvC scope (cellsFrom (s3.heap.objs.size + 1) scope.names (cloFrom X.env.cells scope.names [])) s3.heap.objs.size X.env)) _ { s3 with heap := pushCells (s3.heap.push { cls := .type "dict", data := .dict #[] }) scope.names }
  have nfp : ∀ b ∈ [it], (upd H2 D (.lst [])) b = none := fun b hb => (f3 b hb).1.1
  generalize hce : compEnvC scope (cellsFrom (s3.heap.objs.size + 1) scope.names (cloFrom X.env.cells scope.names [])) s3.heap.objs.size X.env = ce at I4 pg pt pe hotB ⊢
  have cL : ce.locals = s3.heap.objs.size := by subst hce; rfl
  generalize hH3 : upd H2 D (.lst []) = H3 at I3 I4 pg pt pe w0 nfp f3 hotB
  generalize hs4 : ({ s3 with heap := pushCells (s3.heap.push { cls := .type "dict", data := .dict #[] }) scope.names } : Shared) = s4 at I4 ⊢
  have st4 : s4.heap.IsListIter it a 0 := T.keep _ _ _ st3 fun b _ o e => by rw [← hs4]; exact pushCells_keeps _ _ _ _ (Heap.get?_push_of_some _ e)
  have stat : ∀ {σ' : L2.St} {H' : Hp} {s' : Shared}, Inv (X.blk s3 H3 scope ce [it]) [] σ' H' s' → (∀ b ∈ [it], H' b = none) → ∀ b ∈ [it], FpOk (X.blk s3 H3 scope ce [it]) [] H' b := fun {σ' H' s'} I' hn b hb =>
    ⟨hn b hb, (I'.ok.exf b hb).1, I'.ok.exfs b hb, .inl hb, fun x c e => (I'.ok.exf b hb).2 x c e, fun p hp => absurd (show p ∈ ([] : List (Addr × Obj)) ++ [] from hp) (by simp)⟩
  have loop : codeAny (model X.prog X.w) X.A (.compLoop (.ListComp elt [⟨tg, iter, ifs, 0⟩] scope pos) 0 (.ref it) (.ref D) ce) (compPost (model X.prog X.w) X.A X.xe none (EP X pins σ Q) (.ref D) s3.heap.objs.size) s4 := by
    refine compLoop_any (fun n s' => ∃ i H', Inv (X.blk s3 H3 scope ce [it]) [] (wipe σ (own.map (·.2))) H' s' ∧ s'.heap.IsListIter it a i ∧ (∀ b ∈ [it], H' b = none) ∧ W i n H') ?_ m0 ⟨0, H3, I4, st4, nfp, w0⟩
    rintro n s5 ⟨i, H5, I5, st5, n5, w5⟩
    rcases turn i n H5 w5 with ⟨stop, qq⟩ | ⟨go, Nx, hNx, step⟩
    · have td := done_hot (E := fun _ _ => False) (hotB _ _ _ _ I5).1 x1lt I5 (stat I5 n5) st5 stop
      refine thnF td fun r s6 ⟨hr, I6⟩ => ?_
      subst hr
      have I7 : Inv X pins σ H5 s6 := I3.call' (ch := [it]) I6.os I6.base I6.hok I6.bare fun b hb => ⟨(f3 b hb).1.2.2.2.1, (f3 b hb).1.2.1, (f3 b hb).1.2.2.2.2.1, (f3 b hb).1.2.2.2.2.2⟩
      have nC : H5 s3.heap.objs.size = none := by
        have z : H5 ce.locals = none := I6.free
        rw [cL] at z
        exact z
      obtain ⟨m, hn, _⟩ := I6.loc
      have hn : s6.heap.Ns ce.locals m := hn
      rw [cL] at hn
      have f := I3.fpOk (b := s3.heap.objs.size) (H' := H5) (Nat.le_refl _) nC
      refine ⟨m, hn, fun h'' sb => ?_⟩
      obtain ⟨f0, f1, f2, f3, f4, f5⟩ := f
      exact ⟨.ref D, H5, I7.turned (t' := s6.toks) (fun b o hb e => (sb.2 b hb).trans e) f0 f1 f3 f4 f5, rfl, qq⟩
    · have ti := item_free (tg := tg) (E := fun _ _ => False) I5 (stat I5 n5) st5 go
      refine thnF ti fun r s6 ⟨u, hr, h6⟩ => ?_
      subst hr
      refine thnF h6 fun _ s7 ⟨x, H7, I7, r7, y7, st7, n7⟩ => ?_
      have I7' := I7.pinned (stat I7 n7) (T.obj _ _ st7)
      refine thnF (pg.run _ s7 _ H7 x u _ I7' r7 (step x H7 y7)) fun _ s8 ⟨σ8, H8, I8, hw8, q8⟩ => ?_
      refine thnF (pt.run _ s8 σ8 H8 _ I8 q8) fun b s9 ⟨H9, I9, q9⟩ => ?_
      have fin : ∀ {s' : Shared} {H' : Hp}, Inv (X.blk s3 H3 scope ce [it]) ([] ++ pinsAt [it] s7.heap) σ8 H' s' → Nx H' → ∃ m, m < n ∧ ∃ i H', Inv (X.blk s3 H3 scope ce [it]) [] (wipe σ (own.map (·.2))) H' s' ∧ s'.heap.IsListIter it a i ∧ (∀ b ∈ [it], H' b = none) ∧ W i m H' := fun {s' H'} I' nx => by
        obtain ⟨m', hm, w'⟩ := hNx H' nx
        have pin' : ∀ b ∈ [it], ∀ o, s7.heap.get? b = some o → s'.heap.get? b = some o ∧ H' b = none := fun b hb o e =>
          let z := I'.pin (b, o) (List.mem_append_right _ (List.mem_append_right _ (mem_pinsAt hb e)))
          ⟨z.1, z.2.1⟩
        have hl : (wipe σ (own.map (·.2))).length = σ8.length := by rw [← hw8, wipe_length]
        refine ⟨m', hm, i + 1, H', (I'.unpinned (pins := [])).weak hl (fun j v e => ?_), T.keep _ _ _ st7 fun b hb o e => (pin' b hb o e).1, fun b hb => ?_, w'⟩
        · rw [← hw8] at e
          exact (wipe_some e).1
        · obtain ⟨o, e, _⟩ := T.obj _ _ st7 b hb
          exact (pin' b hb o e).2
      cases b with
      | false =>
        simp only [Bool.false_eq_true, if_false] at q9 ⊢
        exact fin I9 q9
      | true =>
        simp only [if_true] at q9 ⊢
        refine thnF (pe.run _ s9 σ8 H9 _ I9 q9) fun z s10 ⟨yv, H10, I10, r10, acc, hD10, hz10, nx⟩ => ?_
        exact app_ok (X := X.blk s3 H3 scope ce [it]) I10 hD10 hz10 r10 fun s11 I11 => fin I11 nx
  exact codeAny_compStart_list loop (T.self X.A 0 _ _ _ st4 loop)
end
end Gm
namespace Gm
open PySem PySem.Spec PyProof.Rows L2
theorem takesN0 {X : Cx} : L2N.Takes X (fun _ _ _ _ => False) := fun _ _ x => by
  obtain ⟨_, _, _, _, _, _, _, _, _, _, _, _, _, _, _, _, z⟩ := x
  exact z.elim
/-- a suite read for the error that has come -/
def sAny (X : Cx) (sts : List Stmt) (a : Addr) (cls : Value) (d : Option Addr) : L2.TS := fun D σ H =>
  ∃ R : L2.TS, (∀ (oe : Obj) (pn : List (Addr × Obj)), L2N.Zn cls d oe → (∃ vs, oe.data = .fields vs) → PSs (X.suite a ((a, oe) :: pn)) sts R) ∧ R D σ H
theorem pss_any {X : Cx} {sts : List Stmt} {a : Addr} {oe : Obj} {cls : Value} {d : Option Addr} {pn : List (Addr × Obj)} (hz : L2N.Zn cls d oe) (hf : ∃ vs, oe.data = .fields vs) : PSs (X.suite a ((a, oe) :: pn)) sts (sAny X sts a cls d) :=
  ⟨fun pins s σ H D I h => by
    obtain ⟨R, hR, h⟩ := h
    exact (hR oe pn hz hf).run pins s σ H D I h⟩
end Gm

set_option maxRecDepth 100000
set_option maxHeartbeats 4000000
namespace G1
open PySem PySem.Spec PyProof.Rows L2 Gm
def top (i : Nat) : Stmt := PySem.Challenge.pw_groupmarks_k03_what_is_refused.main.body.getD i (.Pass ⟨0, 0, 0, 0⟩)
abbrev s_parts : Stmt := top 8
abbrev N_parts : List Str := ["pattern", "found", "waiting", "part"]
theorem sc_parts : FnScope N_parts ["pattern"] (defScope s_parts) := ⟨rfl, rfl, rfl, by decide +kernel, rfl, by decide +kernel, by decide +kernel⟩

abbrev s_numbers : Stmt := top 9
abbrev N_numbers : List Str := ["pattern"]
theorem sc_numbers : FnScope N_numbers ["pattern"] (defScope s_numbers) := ⟨rfl, rfl, rfl, by decide +kernel, rfl, by decide +kernel, by decide +kernel⟩

abbrev s_checked : Stmt := top 10
abbrev N_checked : List Str := ["pattern", "found"]
theorem sc_checked : FnScope N_checked ["pattern"] (defScope s_checked) := ⟨rfl, rfl, rfl, by decide +kernel, rfl, by decide +kernel, by decide +kernel⟩

abbrev s__has_form : Stmt := top 11
abbrev N__has_form : List Str := ["thing", "name"]
theorem sc__has_form : FnScope N__has_form ["thing"] (defScope s__has_form) := ⟨rfl, rfl, rfl, by decide +kernel, rfl, by decide +kernel, by decide +kernel⟩

abbrev s__is_sign : Stmt := top 12
abbrev N__is_sign : List Str := ["thing"]
theorem sc__is_sign : FnScope N__is_sign ["thing"] (defScope s__is_sign) := ⟨rfl, rfl, rfl, by decide +kernel, rfl, by decide +kernel, by decide +kernel⟩

abbrev s__is_group_number : Stmt := top 13
abbrev N__is_group_number : List Str := ["thing"]
theorem sc__is_group_number : FnScope N__is_group_number ["thing"] (defScope s__is_group_number) := ⟨rfl, rfl, rfl, by decide +kernel, rfl, by decide +kernel, by decide +kernel⟩

abbrev s__inner : Stmt := top 14
abbrev N__inner : List Str := ["part"]
theorem sc__inner : FnScope N__inner ["part"] (defScope s__inner) := ⟨rfl, rfl, rfl, by decide +kernel, rfl, by decide +kernel, by decide +kernel⟩

abbrev s__numbers_among : Stmt := top 15
abbrev N__numbers_among : List Str := ["found", "part"]
theorem sc__numbers_among : FnScope N__numbers_among ["found"] (defScope s__numbers_among) := ⟨rfl, rfl, rfl, by decide +kernel, rfl, by decide +kernel, by decide +kernel⟩

abbrev s__has_twins : Stmt := top 16
abbrev N__has_twins : List Str := ["many"]
theorem sc__has_twins : FnScope N__has_twins ["many"] (defScope s__has_twins) := ⟨rfl, rfl, rfl, by decide +kernel, rfl, by decide +kernel, by decide +kernel⟩

abbrev s__takings : Stmt := top 17
abbrev N__takings : List Str := ["found", "takings", "open_answers", "part", "inner_answers", "answer", "_"]
theorem sc__takings : FnScope N__takings ["found"] (defScope s__takings) := ⟨rfl, rfl, rfl, by decide +kernel, rfl, by decide +kernel, by decide +kernel⟩

abbrev s__may_take_nothing : Stmt := top 18
abbrev N__may_take_nothing : List Str := ["name", "inner_answers"]
theorem sc__may_take_nothing : FnScope N__may_take_nothing ["name", "inner_answers"] (defScope s__may_take_nothing) := ⟨rfl, rfl, rfl, by decide +kernel, rfl, by decide +kernel, by decide +kernel⟩

abbrev s__has_empty_round : Stmt := top 19
abbrev N__has_empty_round : List Str := ["found", "takings", "at", "part"]
theorem sc__has_empty_round : FnScope N__has_empty_round ["found"] (defScope s__has_empty_round) := ⟨rfl, rfl, rfl, by decide +kernel, rfl, by decide +kernel, by decide +kernel⟩

abbrev s_first_state : Stmt := top 21
abbrev N_first_state : List Str := ["pattern"]
theorem sc_first_state : FnScope N_first_state ["pattern"] (defScope s_first_state) := ⟨rfl, rfl, rfl, by decide +kernel, rfl, by decide +kernel, by decide +kernel⟩

abbrev s_is_end : Stmt := top 22
abbrev N_is_end : List Str := ["state", "text"]
theorem sc_is_end : FnScope N_is_end ["state", "text"] (defScope s_is_end) := ⟨rfl, rfl, rfl, by decide +kernel, rfl, by decide +kernel, by decide +kernel⟩

abbrev s_onward : Stmt := top 23
abbrev N_onward : List Str := ["state", "text", "rest", "place", "thing", "behind", "ahead"]
theorem sc_onward : FnScope N_onward ["state", "text"] (defScope s_onward) := ⟨rfl, rfl, rfl, by decide +kernel, rfl, by decide +kernel, by decide +kernel⟩

abbrev s__takes : Stmt := top 24
abbrev N__takes : List Str := ["thing", "sign"]
theorem sc__takes : FnScope N__takes ["thing", "sign"] (defScope s__takes) := ⟨rfl, rfl, rfl, by decide +kernel, rfl, by decide +kernel, by decide +kernel⟩

abbrev s__unfolded : Stmt := top 25
abbrev N__unfolded : List Str := ["thing", "p", "q", "n"]
theorem sc__unfolded : FnScope N__unfolded ["thing"] (defScope s__unfolded) := ⟨rfl, rfl, rfl, by decide +kernel, rfl, by decide +kernel, by decide +kernel⟩

abbrev s_numbers_ahead : Stmt := top 27
abbrev N_numbers_ahead : List Str := ["pattern", "first_rest", "_", "rests", "ahead", "following", "rest"]
theorem sc_numbers_ahead : FnScope N_numbers_ahead ["pattern"] (defScope s_numbers_ahead) := ⟨rfl, rfl, rfl, by decide +kernel, rfl, by decide +kernel, by decide +kernel⟩

abbrev s__number : Stmt := top 28
abbrev N__number : List Str := ["rest", "rests"]
theorem sc__number : FnScope N__number ["rest", "rests"] (defScope s__number) := ⟨rfl, rfl, rfl, by decide +kernel, rfl, by decide +kernel, by decide +kernel⟩

abbrev s__led_on_to : Stmt := top 29
abbrev N__led_on_to : List Str := ["rest", "behind", "_"]
theorem sc__led_on_to : FnScope N__led_on_to ["rest"] (defScope s__led_on_to) := ⟨rfl, rfl, rfl, by decide +kernel, rfl, by decide +kernel, by decide +kernel⟩

abbrev s__wanted_sign : Stmt := top 30
abbrev N__wanted_sign : List Str := ["rest"]
theorem sc__wanted_sign : FnScope N__wanted_sign ["rest"] (defScope s__wanted_sign) := ⟨rfl, rfl, rfl, by decide +kernel, rfl, by decide +kernel, by decide +kernel⟩

abbrev s_first_way : Stmt := top 33
abbrev N_first_way : List Str := ["pattern", "text", "path", "_", "step"]
theorem sc_first_way : FnScope N_first_way ["pattern", "text"] (defScope s_first_way) := ⟨rfl, rfl, rfl, by decide +kernel, rfl, by decide +kernel, by decide +kernel⟩

abbrev s_dead_ends : Stmt := top 34
abbrev N_dead_ends : List Str := ["pattern", "text", "_", "dead"]
theorem sc_dead_ends : FnScope N_dead_ends ["pattern", "text"] (defScope s_dead_ends) := ⟨rfl, rfl, rfl, by decide +kernel, rfl, by decide +kernel, by decide +kernel⟩

abbrev s__tried : Stmt := top 35
abbrev N__tried : List Str := ["pattern", "text", "ahead", "path", "dead", "last", "number", "state"]
theorem sc__tried : FnScope N__tried ["pattern", "text"] (defScope s__tried) := ⟨rfl, rfl, rfl, by decide +kernel, rfl, by decide +kernel, by decide +kernel⟩

abbrev s__step : Stmt := top 36
abbrev N__step : List Str := ["number", "state", "text", "ahead"]
theorem sc__step : FnScope N__step ["number", "state", "text", "ahead"] (defScope s__step) := ⟨rfl, rfl, rfl, by decide +kernel, rfl, by decide +kernel, by decide +kernel⟩

abbrev s_walk : Stmt := top 38
abbrev N_walk : List Str := ["pattern", "text", "way", "states", "left"]
theorem sc_walk : FnScope N_walk ["pattern", "text", "way"] (defScope s_walk) := ⟨rfl, rfl, rfl, by decide +kernel, rfl, by decide +kernel, by decide +kernel⟩

abbrev s_marks : Stmt := top 39
abbrev N_marks : List Str := ["pattern", "text", "way", "states", "found", "begun", "rest", "place", "thing"]
theorem sc_marks : FnScope N_marks ["pattern", "text", "way"] (defScope s_marks) := ⟨rfl, rfl, rfl, by decide +kernel, rfl, by decide +kernel, by decide +kernel⟩

abbrev s__followed : Stmt := top 40
abbrev N__followed : List Str := ["following", "left", "choice"]
theorem sc__followed : FnScope N__followed ["following", "left"] (defScope s__followed) := ⟨rfl, rfl, rfl, by decide +kernel, rfl, by decide +kernel, by decide +kernel⟩

abbrev s__is_choice : Stmt := top 41
abbrev N__is_choice : List Str := ["thing"]
theorem sc__is_choice : FnScope N__is_choice ["thing"] (defScope s__is_choice) := ⟨rfl, rfl, rfl, by decide +kernel, rfl, by decide +kernel, by decide +kernel⟩

abbrev s_fits : Stmt := top 43
abbrev N_fits : List Str := ["pattern", "text"]
theorem sc_fits : FnScope N_fits ["pattern", "text"] (defScope s_fits) := ⟨rfl, rfl, rfl, by decide +kernel, rfl, by decide +kernel, by decide +kernel⟩

abbrev s_taken : Stmt := top 44
abbrev N_taken : List Str := ["pattern", "text", "way", "found"]
theorem sc_taken : FnScope N_taken ["pattern", "text"] (defScope s_taken) := ⟨rfl, rfl, rfl, by decide +kernel, rfl, by decide +kernel, by decide +kernel⟩

abbrev s__part : Stmt := top 45
abbrev N__part : List Str := ["text", "mark", "begin", "close"]
theorem sc__part : FnScope N__part ["text", "mark"] (defScope s__part) := ⟨rfl, rfl, rfl, by decide +kernel, rfl, by decide +kernel, by decide +kernel⟩

abbrev s__law_cell_at : Stmt := top 47
abbrev N__law_cell_at : List Str := ["_law_script", "_law_k"]
theorem sc__law_cell_at : FnScope N__law_cell_at ["_law_script", "_law_k"] (defScope s__law_cell_at) := ⟨rfl, rfl, rfl, by decide +kernel, rfl, by decide +kernel, by decide +kernel⟩

abbrev s__law_sign : Stmt := top 48
abbrev N__law_sign : List Str := ["_law_cell", "_law_some"]
theorem sc__law_sign : FnScope N__law_sign ["_law_cell"] (defScope s__law_sign) := ⟨rfl, rfl, rfl, by decide +kernel, rfl, by decide +kernel, by decide +kernel⟩

abbrev s__law_bad : Stmt := top 49
abbrev N__law_bad : List Str := ["_law_cell", "_law_sign_here", "_law_some"]
theorem sc__law_bad : FnScope N__law_bad ["_law_cell", "_law_sign_here"] (defScope s__law_bad) := ⟨rfl, rfl, rfl, by decide +kernel, rfl, by decide +kernel, by decide +kernel⟩

abbrev s__law_two : Stmt := top 50
abbrev N__law_two : List Str := ["_law_cell", "_law_left", "_law_right"]
theorem sc__law_two : FnScope N__law_two ["_law_cell", "_law_left", "_law_right"] (defScope s__law_two) := ⟨rfl, rfl, rfl, by decide +kernel, rfl, by decide +kernel, by decide +kernel⟩

abbrev s__law_made : Stmt := top 51
abbrev N__law_made : List Str := ["_law_cells", "_law_sign_here", "_law_number", "_law_pile", "_law_cell", "_law_kind", "_law_leaf", "_law_right", "_law_part"]
theorem sc__law_made : FnScope N__law_made ["_law_cells", "_law_sign_here", "_law_number"] (defScope s__law_made) := ⟨rfl, rfl, rfl, by decide +kernel, rfl, by decide +kernel, by decide +kernel⟩

abbrev s__law_empty : Stmt := top 52
abbrev N__law_empty : List Str := ["_law_cells", "_law_cell", "_law_sign_here", "_law_part", "_law_inside"]
theorem sc__law_empty : FnScope N__law_empty ["_law_cells", "_law_cell", "_law_sign_here"] (defScope s__law_empty) := ⟨rfl, rfl, rfl, by decide +kernel, rfl, by decide +kernel, by decide +kernel⟩

abbrev s__law_joined : Stmt := top 53
abbrev N__law_joined : List Str := ["_law_things", "_law_cell", "_law_made_here", "_law_number", "_law_thing", "_law_pair"]
theorem sc__law_joined : FnScope N__law_joined ["_law_things", "_law_cell"] (defScope s__law_joined) := ⟨rfl, rfl, rfl, by decide +kernel, rfl, by decide +kernel, by decide +kernel⟩

abbrev s__law_error : Stmt := top 54
abbrev N__law_error : List Str := ["_law_ask", "_law_pattern", "_law_sign_here"]
theorem sc__law_error : FnScope N__law_error ["_law_ask", "_law_pattern", "_law_sign_here"] (defScope s__law_error) := ⟨rfl, rfl, rfl, by decide +kernel, rfl, by decide +kernel, by decide +kernel⟩

abbrev s__law_refused : Stmt := top 55
abbrev N__law_refused : List Str := ["_law_pattern", "_law_due", "e", "_law_kinds", "_law_word", "_law_holds"]
theorem sc__law_refused : FnScope N__law_refused ["_law_pattern", "_law_due"] (defScope s__law_refused) := ⟨rfl, rfl, rfl, by decide +kernel, rfl, by decide +kernel, by decide +kernel⟩

abbrev s__law_checked : Stmt := top 56
abbrev N__law_checked : List Str := ["_law_pattern"]
theorem sc__law_checked : FnScope N__law_checked ["_law_pattern"] (defScope s__law_checked) := ⟨rfl, rfl, rfl, by decide +kernel, rfl, by decide +kernel, by decide +kernel⟩

abbrev s_law : Stmt := top 57
abbrev N_law : List Str := ["_law_script", "_law_flags", "_law_sign_here", "_law_number", "_law_things", "_law_due", "_law_inside", "_law_cut", "_law_pattern", "_law_found"]
theorem sc_law : FnScope N_law ["_law_script"] (defScope s_law) := ⟨rfl, rfl, rfl, by decide +kernel, rfl, by decide +kernel, by decide +kernel⟩

structure Txt (w : World) (K : PySem.W.Frag) (mg : Str → Option Value) where
  f_parts : Addr
  fd_parts : FuncData
  F_parts : Fun K "parts" "parts" s_parts f_parts fd_parts
  m_parts : mg "parts" = some (.ref f_parts)
  b_parts : Binds K fd_parts ["pattern"] []
  f_numbers : Addr
  fd_numbers : FuncData
  F_numbers : Fun K "numbers" "numbers" s_numbers f_numbers fd_numbers
  m_numbers : mg "numbers" = some (.ref f_numbers)
  b_numbers : Binds K fd_numbers ["pattern"] []
  f_checked : Addr
  fd_checked : FuncData
  F_checked : Fun K "checked" "checked" s_checked f_checked fd_checked
  m_checked : mg "checked" = some (.ref f_checked)
  b_checked : Binds K fd_checked ["pattern"] []
  f__has_form : Addr
  fd__has_form : FuncData
  F__has_form : Fun K "_has_form" "_has_form" s__has_form f__has_form fd__has_form
  m__has_form : mg "_has_form" = some (.ref f__has_form)
  b__has_form : Binds K fd__has_form ["thing"] []
  f__is_sign : Addr
  fd__is_sign : FuncData
  F__is_sign : Fun K "_is_sign" "_is_sign" s__is_sign f__is_sign fd__is_sign
  m__is_sign : mg "_is_sign" = some (.ref f__is_sign)
  b__is_sign : Binds K fd__is_sign ["thing"] []
  f__is_group_number : Addr
  fd__is_group_number : FuncData
  F__is_group_number : Fun K "_is_group_number" "_is_group_number" s__is_group_number f__is_group_number fd__is_group_number
  m__is_group_number : mg "_is_group_number" = some (.ref f__is_group_number)
  b__is_group_number : Binds K fd__is_group_number ["thing"] []
  f__inner : Addr
  fd__inner : FuncData
  F__inner : Fun K "_inner" "_inner" s__inner f__inner fd__inner
  m__inner : mg "_inner" = some (.ref f__inner)
  b__inner : Binds K fd__inner ["part"] []
  f__numbers_among : Addr
  fd__numbers_among : FuncData
  F__numbers_among : Fun K "_numbers_among" "_numbers_among" s__numbers_among f__numbers_among fd__numbers_among
  m__numbers_among : mg "_numbers_among" = some (.ref f__numbers_among)
  b__numbers_among : Binds K fd__numbers_among ["found"] []
  f__has_twins : Addr
  fd__has_twins : FuncData
  F__has_twins : Fun K "_has_twins" "_has_twins" s__has_twins f__has_twins fd__has_twins
  m__has_twins : mg "_has_twins" = some (.ref f__has_twins)
  b__has_twins : Binds K fd__has_twins ["many"] []
  f__takings : Addr
  fd__takings : FuncData
  F__takings : Fun K "_takings" "_takings" s__takings f__takings fd__takings
  m__takings : mg "_takings" = some (.ref f__takings)
  b__takings : Binds K fd__takings ["found"] []
  f__may_take_nothing : Addr
  fd__may_take_nothing : FuncData
  F__may_take_nothing : Fun K "_may_take_nothing" "_may_take_nothing" s__may_take_nothing f__may_take_nothing fd__may_take_nothing
  m__may_take_nothing : mg "_may_take_nothing" = some (.ref f__may_take_nothing)
  b__may_take_nothing : Binds K fd__may_take_nothing ["name", "inner_answers"] []
  f__has_empty_round : Addr
  fd__has_empty_round : FuncData
  F__has_empty_round : Fun K "_has_empty_round" "_has_empty_round" s__has_empty_round f__has_empty_round fd__has_empty_round
  m__has_empty_round : mg "_has_empty_round" = some (.ref f__has_empty_round)
  b__has_empty_round : Binds K fd__has_empty_round ["found"] []
  f_first_state : Addr
  fd_first_state : FuncData
  F_first_state : Fun K "first_state" "first_state" s_first_state f_first_state fd_first_state
  m_first_state : mg "first_state" = some (.ref f_first_state)
  b_first_state : Binds K fd_first_state ["pattern"] []
  f_is_end : Addr
  fd_is_end : FuncData
  F_is_end : Fun K "is_end" "is_end" s_is_end f_is_end fd_is_end
  m_is_end : mg "is_end" = some (.ref f_is_end)
  b_is_end : Binds K fd_is_end ["state", "text"] []
  f_onward : Addr
  fd_onward : FuncData
  F_onward : Fun K "onward" "onward" s_onward f_onward fd_onward
  m_onward : mg "onward" = some (.ref f_onward)
  b_onward : Binds K fd_onward ["state", "text"] []
  f__takes : Addr
  fd__takes : FuncData
  F__takes : Fun K "_takes" "_takes" s__takes f__takes fd__takes
  m__takes : mg "_takes" = some (.ref f__takes)
  b__takes : Binds K fd__takes ["thing", "sign"] []
  f__unfolded : Addr
  fd__unfolded : FuncData
  F__unfolded : Fun K "_unfolded" "_unfolded" s__unfolded f__unfolded fd__unfolded
  m__unfolded : mg "_unfolded" = some (.ref f__unfolded)
  b__unfolded : Binds K fd__unfolded ["thing"] []
  f_numbers_ahead : Addr
  fd_numbers_ahead : FuncData
  F_numbers_ahead : Fun K "numbers_ahead" "numbers_ahead" s_numbers_ahead f_numbers_ahead fd_numbers_ahead
  m_numbers_ahead : mg "numbers_ahead" = some (.ref f_numbers_ahead)
  b_numbers_ahead : Binds K fd_numbers_ahead ["pattern"] []
  f__number : Addr
  fd__number : FuncData
  F__number : Fun K "_number" "_number" s__number f__number fd__number
  m__number : mg "_number" = some (.ref f__number)
  b__number : Binds K fd__number ["rest", "rests"] []
  f__led_on_to : Addr
  fd__led_on_to : FuncData
  F__led_on_to : Fun K "_led_on_to" "_led_on_to" s__led_on_to f__led_on_to fd__led_on_to
  m__led_on_to : mg "_led_on_to" = some (.ref f__led_on_to)
  b__led_on_to : Binds K fd__led_on_to ["rest"] []
  f__wanted_sign : Addr
  fd__wanted_sign : FuncData
  F__wanted_sign : Fun K "_wanted_sign" "_wanted_sign" s__wanted_sign f__wanted_sign fd__wanted_sign
  m__wanted_sign : mg "_wanted_sign" = some (.ref f__wanted_sign)
  b__wanted_sign : Binds K fd__wanted_sign ["rest"] []
  f_first_way : Addr
  fd_first_way : FuncData
  F_first_way : Fun K "first_way" "first_way" s_first_way f_first_way fd_first_way
  m_first_way : mg "first_way" = some (.ref f_first_way)
  b_first_way : Binds K fd_first_way ["pattern", "text"] []
  f_dead_ends : Addr
  fd_dead_ends : FuncData
  F_dead_ends : Fun K "dead_ends" "dead_ends" s_dead_ends f_dead_ends fd_dead_ends
  m_dead_ends : mg "dead_ends" = some (.ref f_dead_ends)
  b_dead_ends : Binds K fd_dead_ends ["pattern", "text"] []
  f__tried : Addr
  fd__tried : FuncData
  F__tried : Fun K "_tried" "_tried" s__tried f__tried fd__tried
  m__tried : mg "_tried" = some (.ref f__tried)
  b__tried : Binds K fd__tried ["pattern", "text"] []
  f__step : Addr
  fd__step : FuncData
  F__step : Fun K "_step" "_step" s__step f__step fd__step
  m__step : mg "_step" = some (.ref f__step)
  b__step : Binds K fd__step ["number", "state", "text", "ahead"] []
  f_walk : Addr
  fd_walk : FuncData
  F_walk : Fun K "walk" "walk" s_walk f_walk fd_walk
  m_walk : mg "walk" = some (.ref f_walk)
  b_walk : Binds K fd_walk ["pattern", "text", "way"] []
  f_marks : Addr
  fd_marks : FuncData
  F_marks : Fun K "marks" "marks" s_marks f_marks fd_marks
  m_marks : mg "marks" = some (.ref f_marks)
  b_marks : Binds K fd_marks ["pattern", "text", "way"] []
  f__followed : Addr
  fd__followed : FuncData
  F__followed : Fun K "_followed" "_followed" s__followed f__followed fd__followed
  m__followed : mg "_followed" = some (.ref f__followed)
  b__followed : Binds K fd__followed ["following", "left"] []
  f__is_choice : Addr
  fd__is_choice : FuncData
  F__is_choice : Fun K "_is_choice" "_is_choice" s__is_choice f__is_choice fd__is_choice
  m__is_choice : mg "_is_choice" = some (.ref f__is_choice)
  b__is_choice : Binds K fd__is_choice ["thing"] []
  f_fits : Addr
  fd_fits : FuncData
  F_fits : Fun K "fits" "fits" s_fits f_fits fd_fits
  m_fits : mg "fits" = some (.ref f_fits)
  b_fits : Binds K fd_fits ["pattern", "text"] []
  f_taken : Addr
  fd_taken : FuncData
  F_taken : Fun K "taken" "taken" s_taken f_taken fd_taken
  m_taken : mg "taken" = some (.ref f_taken)
  b_taken : Binds K fd_taken ["pattern", "text"] []
  f__part : Addr
  fd__part : FuncData
  F__part : Fun K "_part" "_part" s__part f__part fd__part
  m__part : mg "_part" = some (.ref f__part)
  b__part : Binds K fd__part ["text", "mark"] []
  f__law_cell_at : Addr
  fd__law_cell_at : FuncData
  F__law_cell_at : Fun K "_law_cell_at" "_law_cell_at" s__law_cell_at f__law_cell_at fd__law_cell_at
  m__law_cell_at : mg "_law_cell_at" = some (.ref f__law_cell_at)
  b__law_cell_at : Binds K fd__law_cell_at ["_law_script", "_law_k"] []
  f__law_sign : Addr
  fd__law_sign : FuncData
  F__law_sign : Fun K "_law_sign" "_law_sign" s__law_sign f__law_sign fd__law_sign
  m__law_sign : mg "_law_sign" = some (.ref f__law_sign)
  b__law_sign : Binds K fd__law_sign ["_law_cell"] []
  f__law_bad : Addr
  fd__law_bad : FuncData
  F__law_bad : Fun K "_law_bad" "_law_bad" s__law_bad f__law_bad fd__law_bad
  m__law_bad : mg "_law_bad" = some (.ref f__law_bad)
  b__law_bad : Binds K fd__law_bad ["_law_cell", "_law_sign_here"] []
  f__law_two : Addr
  fd__law_two : FuncData
  F__law_two : Fun K "_law_two" "_law_two" s__law_two f__law_two fd__law_two
  m__law_two : mg "_law_two" = some (.ref f__law_two)
  b__law_two : Binds K fd__law_two ["_law_cell", "_law_left", "_law_right"] []
  f__law_made : Addr
  fd__law_made : FuncData
  F__law_made : Fun K "_law_made" "_law_made" s__law_made f__law_made fd__law_made
  m__law_made : mg "_law_made" = some (.ref f__law_made)
  b__law_made : Binds K fd__law_made ["_law_cells", "_law_sign_here", "_law_number"] []
  f__law_empty : Addr
  fd__law_empty : FuncData
  F__law_empty : Fun K "_law_empty" "_law_empty" s__law_empty f__law_empty fd__law_empty
  m__law_empty : mg "_law_empty" = some (.ref f__law_empty)
  b__law_empty : Binds K fd__law_empty ["_law_cells", "_law_cell", "_law_sign_here"] []
  f__law_joined : Addr
  fd__law_joined : FuncData
  F__law_joined : Fun K "_law_joined" "_law_joined" s__law_joined f__law_joined fd__law_joined
  m__law_joined : mg "_law_joined" = some (.ref f__law_joined)
  b__law_joined : Binds K fd__law_joined ["_law_things", "_law_cell"] []
  f__law_error : Addr
  fd__law_error : FuncData
  F__law_error : Fun K "_law_error" "_law_error" s__law_error f__law_error fd__law_error
  m__law_error : mg "_law_error" = some (.ref f__law_error)
  b__law_error : Binds K fd__law_error ["_law_ask", "_law_pattern", "_law_sign_here"] []
  f__law_refused : Addr
  fd__law_refused : FuncData
  F__law_refused : Fun K "_law_refused" "_law_refused" s__law_refused f__law_refused fd__law_refused
  m__law_refused : mg "_law_refused" = some (.ref f__law_refused)
  b__law_refused : Binds K fd__law_refused ["_law_pattern", "_law_due"] []
  f__law_checked : Addr
  fd__law_checked : FuncData
  F__law_checked : Fun K "_law_checked" "_law_checked" s__law_checked f__law_checked fd__law_checked
  m__law_checked : mg "_law_checked" = some (.ref f__law_checked)
  b__law_checked : Binds K fd__law_checked ["_law_pattern"] []
  f_law : Addr
  fd_law : FuncData
  F_law : Fun K "law" "law" s_law f_law fd_law
  m_law : mg "law" = some (.ref f_law)
  b_law : Binds K fd_law ["_law_script"] []
  n_ValueError : mg "ValueError" = none
  n_all : mg "all" = none
  n_any : mg "any" = none
  n_enumerate : mg "enumerate" = none
  n_int : mg "int" = none
  n_isinstance : mg "isinstance" = none
  n_len : mg "len" = none
  n_list : mg "list" = none
  n_reversed : mg "reversed" = none
  n_set : mg "set" = none
  n_str : mg "str" = none
  n_tuple : mg "tuple" = none
  n_type : mg "type" = none
  n_zip : mg "zip" = none
  d_LENGTHS : Addr
  m_LENGTHS : mg "LENGTHS" = some (.ref d_LENGTHS)
  w_LENGTHS : ∃ es n, K.lookup d_LENGTHS = some ⟨.type "dict", none, .dict es n, #[]⟩ ∧ PySem.W.KeysLit w.params es.toList
  y_LENGTHS : (d_LENGTHS == sysModules) = false
  g_sign : KGet K w d_LENGTHS "sign" (some (.int 2))
  g_any : KGet K w d_LENGTHS "any" (some (.int 1))
  g_none : KGet K w d_LENGTHS "none" (some (.int 1))
  g_row : KGet K w d_LENGTHS "row" (some (.int 3))
  g_or : KGet K w d_LENGTHS "or" (some (.int 3))
  g_more : KGet K w d_LENGTHS "more" (some (.int 2))
  g_less : KGet K w d_LENGTHS "less" (some (.int 2))
  g_group : KGet K w d_LENGTHS "group" (some (.int 3))
  c_MarkError : Addr
  g_MarkError : mg "MarkError" = some (.ref c_MarkError)
  c_BadPattern : Addr
  g_BadPattern : mg "BadPattern" = some (.ref c_BadPattern)
  c_TwiceNumbered : Addr
  g_TwiceNumbered : mg "TwiceNumbered" = some (.ref c_TwiceNumbered)
  c_EmptyRound : Addr
  g_EmptyRound : mg "EmptyRound" = some (.ref c_EmptyRound)
  c_BadWay : Addr
  g_BadWay : mg "BadWay" = some (.ref c_BadWay)
  x_BadPattern : PySem.W.excIn K c_BadPattern [.type "ValueError", .type "Exception", .type "BaseException", .type "object"] "ValueError.__new__" = true
  k_BadPattern : PySem.W.keepIn K (.ref c_BadPattern) = true
  b_BadPattern : PySem.W.subIn K (.ref c_BadPattern) (.type "BaseException") = some true
  t_BadPattern : PySem.W.typeIn K (.ref c_BadPattern) = some (.type "type")
  x_TwiceNumbered : PySem.W.excIn K c_TwiceNumbered [.type "ValueError", .type "Exception", .type "BaseException", .type "object"] "ValueError.__new__" = true
  k_TwiceNumbered : PySem.W.keepIn K (.ref c_TwiceNumbered) = true
  b_TwiceNumbered : PySem.W.subIn K (.ref c_TwiceNumbered) (.type "BaseException") = some true
  t_TwiceNumbered : PySem.W.typeIn K (.ref c_TwiceNumbered) = some (.type "type")
  x_EmptyRound : PySem.W.excIn K c_EmptyRound [.type "ValueError", .type "Exception", .type "BaseException", .type "object"] "ValueError.__new__" = true
  k_EmptyRound : PySem.W.keepIn K (.ref c_EmptyRound) = true
  b_EmptyRound : PySem.W.subIn K (.ref c_EmptyRound) (.type "BaseException") = some true
  t_EmptyRound : PySem.W.typeIn K (.ref c_EmptyRound) = some (.type "type")
  ei_BadPattern : ExcC K c_BadPattern
  kv_BadPattern : PySem.W.kitOne K (.ref c_BadPattern) (.type "ValueError") = some true
  e_BadPattern_MarkError : PySem.W.exmOne K (.ref c_BadPattern) (.ref c_MarkError) = some true
  ki_BadPattern_MarkError : PySem.W.kitOne K (.ref c_BadPattern) (.ref c_MarkError) = some true
  e_BadPattern_BadPattern : PySem.W.exmOne K (.ref c_BadPattern) (.ref c_BadPattern) = some true
  ki_BadPattern_BadPattern : PySem.W.kitOne K (.ref c_BadPattern) (.ref c_BadPattern) = some true
  e_BadPattern_TwiceNumbered : PySem.W.exmOne K (.ref c_BadPattern) (.ref c_TwiceNumbered) = some false
  ki_BadPattern_TwiceNumbered : PySem.W.kitOne K (.ref c_BadPattern) (.ref c_TwiceNumbered) = some false
  e_BadPattern_EmptyRound : PySem.W.exmOne K (.ref c_BadPattern) (.ref c_EmptyRound) = some false
  ki_BadPattern_EmptyRound : PySem.W.kitOne K (.ref c_BadPattern) (.ref c_EmptyRound) = some false
  e_BadPattern_BadWay : PySem.W.exmOne K (.ref c_BadPattern) (.ref c_BadWay) = some false
  ki_BadPattern_BadWay : PySem.W.kitOne K (.ref c_BadPattern) (.ref c_BadWay) = some false
  ei_TwiceNumbered : ExcC K c_TwiceNumbered
  kv_TwiceNumbered : PySem.W.kitOne K (.ref c_TwiceNumbered) (.type "ValueError") = some true
  e_TwiceNumbered_MarkError : PySem.W.exmOne K (.ref c_TwiceNumbered) (.ref c_MarkError) = some true
  ki_TwiceNumbered_MarkError : PySem.W.kitOne K (.ref c_TwiceNumbered) (.ref c_MarkError) = some true
  e_TwiceNumbered_BadPattern : PySem.W.exmOne K (.ref c_TwiceNumbered) (.ref c_BadPattern) = some false
  ki_TwiceNumbered_BadPattern : PySem.W.kitOne K (.ref c_TwiceNumbered) (.ref c_BadPattern) = some false
  e_TwiceNumbered_TwiceNumbered : PySem.W.exmOne K (.ref c_TwiceNumbered) (.ref c_TwiceNumbered) = some true
  ki_TwiceNumbered_TwiceNumbered : PySem.W.kitOne K (.ref c_TwiceNumbered) (.ref c_TwiceNumbered) = some true
  e_TwiceNumbered_EmptyRound : PySem.W.exmOne K (.ref c_TwiceNumbered) (.ref c_EmptyRound) = some false
  ki_TwiceNumbered_EmptyRound : PySem.W.kitOne K (.ref c_TwiceNumbered) (.ref c_EmptyRound) = some false
  e_TwiceNumbered_BadWay : PySem.W.exmOne K (.ref c_TwiceNumbered) (.ref c_BadWay) = some false
  ki_TwiceNumbered_BadWay : PySem.W.kitOne K (.ref c_TwiceNumbered) (.ref c_BadWay) = some false
  ei_EmptyRound : ExcC K c_EmptyRound
  kv_EmptyRound : PySem.W.kitOne K (.ref c_EmptyRound) (.type "ValueError") = some true
  e_EmptyRound_MarkError : PySem.W.exmOne K (.ref c_EmptyRound) (.ref c_MarkError) = some true
  ki_EmptyRound_MarkError : PySem.W.kitOne K (.ref c_EmptyRound) (.ref c_MarkError) = some true
  e_EmptyRound_BadPattern : PySem.W.exmOne K (.ref c_EmptyRound) (.ref c_BadPattern) = some false
  ki_EmptyRound_BadPattern : PySem.W.kitOne K (.ref c_EmptyRound) (.ref c_BadPattern) = some false
  e_EmptyRound_TwiceNumbered : PySem.W.exmOne K (.ref c_EmptyRound) (.ref c_TwiceNumbered) = some false
  ki_EmptyRound_TwiceNumbered : PySem.W.kitOne K (.ref c_EmptyRound) (.ref c_TwiceNumbered) = some false
  e_EmptyRound_EmptyRound : PySem.W.exmOne K (.ref c_EmptyRound) (.ref c_EmptyRound) = some true
  ki_EmptyRound_EmptyRound : PySem.W.kitOne K (.ref c_EmptyRound) (.ref c_EmptyRound) = some true
  e_EmptyRound_BadWay : PySem.W.exmOne K (.ref c_EmptyRound) (.ref c_BadWay) = some false
  ki_EmptyRound_BadWay : PySem.W.kitOne K (.ref c_EmptyRound) (.ref c_BadWay) = some false
  g_no : ∀ z, lenOf z = none → KGet K w d_LENGTHS z none
end G1

set_option maxRecDepth 100000
set_option maxHeartbeats 4000000
namespace G1
open PySem PySem.Spec PyProof.Rows L2 Gm
section
variable {P : Program} {w : World} {K : PySem.W.Frag} {mg : Str → Option Value} {base : Heap}
def sp_is_sign (K : PySem.W.Frag) : Sp := fun vs H Q _ => ∃ (x : V) (t : String), vs = [x] ∧ KT K H x t ∧ (∀ z, x = .str z → z.length ≤ 1000) ∧ Q (.bl (isSg x)) H
theorem ok__is_sign (T : Txt w K mg) : FnOk P w K mg base CX0 1 T.f__is_sign T.fd__is_sign ["thing"] (sp_is_sign K) := by
  refine T.F__is_sign.ok sc__is_sign (fun vs H Q E h => ?_) (fun cdv A outer s H vs Q E hr h => ?_)
  · obtain ⟨x, t, rfl, _⟩ := h
    rfl
  obtain ⟨x, t, rfl, ht, hz, q⟩ := h
  refine ⟨_, (pss_one (ps_ret (pe_and (pe_cmpR (op_eqTyG TypeEq.meta_str) (pe_callTy call_type1 (by rfl) T.n_type (by decide +kernel) (pa_cons (pv 0) pa_nil)) (pe_bltn (v := .ty "str") (by rfl) T.n_str (by decide +kernel) rfl) (nomark _)) (pe_one (pe_cmpR op_eq (pe_callB call_len (by rfl) T.n_len PySem.boot_len (pa_cons (pv 0) pa_nil)) pe_int (nomark _)))))), ?_⟩
  refine ⟨_, rfl, _, _, rfl, ht.ty, _, rfl, ht.meta, rfl, _, rfl, ?_⟩
  cases ht with
  | str z =>
    refine iteT ?_
    refine ⟨_, rfl, _, _, rfl, ⟨sz (Nat.le_trans (hz z rfl) (by decide)), rfl⟩, rfl, ?_⟩
    have e : decide (V.int ((z.length : Nat) : Int) = V.int 1) = isSg (.str z) := by
      show _ = decide (z.length = 1)
      rw [Bool.eq_iff_iff]
      simp only [decide_eq_true_eq, V.int.injEq]
      omega
    show Q (.bl (decide (V.int ((z.length : Nat) : Int) = V.int 1))) H
    rw [e]
    exact q
  | _ => exact iteF q
def sp_is_group_number (K : PySem.W.Frag) : Sp := fun vs H Q _ => ∃ (x : V) (t : String), vs = [x] ∧ KT K H x t ∧ Q (.bl (isNo x)) H
theorem ok__is_group_number (T : Txt w K mg) : FnOk P w K mg base CX0 1 T.f__is_group_number T.fd__is_group_number ["thing"] (sp_is_group_number K) := by
  refine T.F__is_group_number.ok sc__is_group_number (fun vs H Q E h => ?_) (fun cdv A outer s H vs Q E hr h => ?_)
  · obtain ⟨x, t, rfl, _⟩ := h
    rfl
  obtain ⟨x, t, rfl, ht, q⟩ := h
  refine ⟨_, (pss_one (ps_ret (pe_and (pe_cmpR (op_eqTyG TypeEq.meta_int) (pe_callTy call_type1 (by rfl) T.n_type (by decide +kernel) (pa_cons (pv 0) pa_nil)) (pe_bltn (v := .ty "int") (by rfl) T.n_int (by decide +kernel) rfl) (nomark _)) (pe_one (pe_cmpR op_ge (pv 0) pe_int (nomark _)))))), ?_⟩
  refine ⟨_, rfl, _, _, rfl, ht.ty, _, rfl, ht.meta, rfl, _, rfl, ?_⟩
  cases ht with
  | int n =>
    refine iteT ?_
    refine ⟨_, rfl, _, _, rfl, rfl, ?_⟩
    exact q
  | _ => exact iteF q

end
end G1

set_option maxRecDepth 100000
set_option maxHeartbeats 4000000
namespace G1
open PySem PySem.Spec PyProof.Rows L2 Gm
section
variable {P : Program} {w : World} {K : PySem.W.Frag} {mg : Str → Option Value} {base : Heap}
theorem Txt.g_len (T : Txt w K mg) (z : Str) : KGet K w T.d_LENGTHS z ((lenOf z).map V.int) := by
  unfold lenOf
  repeat' split
  · subst z; exact T.g_sign
  · subst z; exact T.g_any
  · subst z; exact T.g_none
  · subst z; exact T.g_row
  · subst z; exact T.g_or
  · subst z; exact T.g_more
  · subst z; exact T.g_less
  · subst z; exact T.g_group
  · exact T.g_no z (by unfold lenOf; simp [*])
def sp_has_form (K : PySem.W.Frag) : Sp := fun vs H Q _ => ∃ v : V, vs = [v] ∧ ((∃ (p : Pat) (ws : List V), Nod K H p ws v ∧ Q (.bl true) H) ∨ (BadV K H v ∧ Q (.bl false) H))
theorem ok__has_form (T : Txt w K mg) : FnOk P w K mg base CX0 2 T.f__has_form T.fd__has_form ["thing"] (sp_has_form K) := by
  refine T.F__has_form.ok sc__has_form (fun vs H Q E h => ?_) (fun cdv A outer s H vs Q E hr h => ?_)
  · obtain ⟨v, rfl, _⟩ := h
    rfl
  obtain ⟨v, rfl, h⟩ := h
  refine ⟨_, (pss_cons (ps_if (PW.pt (pw_or (pt_cmpR (op_neTyG TypeEq.meta_tuple) (pe_callTy call_type1 (by rfl) T.n_type (by decide +kernel) (pa_cons (pv 0) pa_nil)) (pe_bltn (v := .ty "tuple") (by rfl) T.n_tuple (by decide +kernel) rfl) (nomark _)) (pw_or1 (pt_cmpR op_eq (pe_callB call_len_seq (by rfl) T.n_len PySem.boot_len (pa_cons (pv 0) pa_nil)) pe_int (nomark _)))))
    (pss_one (ps_ret pe_bl))
    pss_nil)
  (pss_cons (ps_set (i := 1) sc__has_form.nd rfl (.inl rfl) (pe_ix ix_tup (pv 0) pe_int (fun _ _ => rfl)))
  (pss_cons (ps_if (PW.pt (pw_or (pt_cmpR (op_neTyG TypeEq.meta_str) (pe_callTy call_type1 (by rfl) T.n_type (by decide +kernel) (pa_cons (pv 1) pa_nil)) (pe_bltn (v := .ty "str") (by rfl) T.n_str (by decide +kernel) rfl) (nomark _)) (pw_or1 (pt_cmpR op_ne (pe_kget (pe_glob (v := .ref T.d_LENGTHS) (by rfl) T.m_LENGTHS rfl) (pv 1) ⟨rfl, rfl, rfl, rfl⟩) (pe_callB call_len_seq (by rfl) T.n_len PySem.boot_len (pa_cons (pv 0) pa_nil)) (nomark _)))))
    (pss_one (ps_ret pe_bl))
    pss_nil)
  (pss_cons (ps_if (pt_cmpR op_eq (pv 1) pe_str (nomark _))
    (pss_one (ps_ret (pe_call (ok__is_sign T) (hr.mono (by decide)) (by rfl) T.m__is_sign T.F__is_sign.kp T.b__is_sign .nil pass0 (pa_cons (pe_ix ix_tup (pv 0) pe_int (fun _ _ => rfl)) pa_nil))))
    pss_nil)
  (pss_cons (ps_if (pt_cmpR op_eq (pv 1) pe_str (nomark _))
    (pss_one (ps_ret (pe_call (ok__is_group_number T) (hr.mono (by decide)) (by rfl) T.m__is_group_number T.F__is_group_number.kp T.b__is_group_number .nil pass0 (pa_cons (pe_ix ix_tup (pv 0) pe_int (fun _ _ => rfl)) pa_nil))))
    pss_nil)
  (pss_one (ps_ret pe_bl))))))), ?_⟩
  have tupT : Meta "tuple" := TypeEq.meta_tuple
  have strT : Meta "str" := TypeEq.meta_str
  -- a tuple that begins with x
  have lead : ∀ {a : Addr} {x : V} {xs : List V}, SqT K H a (x :: xs) → decide (V.int (((x :: xs).length : Nat) : Int) = V.int 0) = false := fun {a x xs} _ => decide_eq_false fun z => by
    have z' := V.int.inj z
    rw [List.length_cons] at z'
    omega
  rcases h with ⟨p, ws, ⟨a, rfl, ht, hl, hn⟩, q⟩ | ⟨hb, q⟩
  · refine ⟨_, rfl, _, _, rfl, .tup ht, _, rfl, tupT, rfl, _, rfl, iteF ?_⟩
    refine ⟨_, rfl, a, _, rfl, .inr ht, rfl, _, rfl, ?_⟩
    rw [lead ht]
    refine iteF ?_
    refine ⟨_, rfl, _, _, _, _, rfl, rfl, ht, at0 rfl, ?_⟩
    refine ⟨_, rfl, _, _, rfl, .str _, _, rfl, strT, rfl, _, rfl, iteF ?_⟩
    refine ⟨_, rfl, T.w_LENGTHS, T.y_LENGTHS, _, rfl, _, _, rfl, T.g_len _, ?_⟩
    refine ⟨_, rfl, a, _, rfl, .inr ht, by cases p <;> rfl, _, rfl, ?_⟩
    have e1 : (!decide (((lenOf (nm p)).map V.int).getD .non = V.int (((V.str (nm p) :: (mid p ++ ws)).length : Nat) : Int))) = false := by
      rw [List.length_cons, List.length_append, ← hl]
      cases p <;> rfl
    rw [e1]
    refine iteF ?_
    refine ⟨_, rfl, rfl, _, rfl, ?_⟩
    cases p with
    | sign c =>
      refine iteT ?_
      exact ⟨_, rfl, _, _, _, _, rfl, rfl, ht, at1 rfl, _, _, rfl, .str _, fun z e => by cases e; show 1 ≤ 1000; decide, q⟩
    | group n p =>
      refine iteF ?_
      refine ⟨_, rfl, rfl, _, rfl, iteT ?_⟩
      refine ⟨_, rfl, _, _, _, _, rfl, rfl, ht, at1 rfl, _, _, rfl, .int n, ?_⟩
      show Q (.bl (decide (1 ≤ n))) H
      rw [decide_eq_true (hn n p rfl)]
      exact q
    | _ =>
      refine iteF ?_
      refine ⟨_, rfl, rfl, _, rfl, iteF ?_⟩
      exact q
  · cases hb with
    | other t ne =>
      refine ⟨_, rfl, _, _, rfl, t.ty, _, rfl, t.meta, rfl, _, rfl, ?_⟩
      rw [decide_eq_true ne]
      exact iteT q
    | empty h =>
      refine ⟨_, rfl, _, _, rfl, .tup h, _, rfl, tupT, rfl, _, rfl, iteF ?_⟩
      refine ⟨_, rfl, _, _, rfl, .inr h, rfl, _, rfl, ?_⟩
      exact iteT q
    | name h t ne =>
      refine ⟨_, rfl, _, _, rfl, .tup h, _, rfl, tupT, rfl, _, rfl, iteF ?_⟩
      refine ⟨_, rfl, _, _, rfl, .inr h, rfl, _, rfl, ?_⟩
      rw [lead h]
      refine iteF ?_
      refine ⟨_, rfl, _, _, _, _, rfl, rfl, h, at0 rfl, ?_⟩
      refine ⟨_, rfl, _, _, rfl, t.ty, _, rfl, t.meta, rfl, _, rfl, ?_⟩
      rw [decide_eq_true ne]
      exact iteT q
    | @len a z xs h ne =>
      refine ⟨_, rfl, _, _, rfl, .tup h, _, rfl, tupT, rfl, _, rfl, iteF ?_⟩
      refine ⟨_, rfl, _, _, rfl, .inr h, rfl, _, rfl, ?_⟩
      rw [lead h]
      refine iteF ?_
      refine ⟨_, rfl, _, _, _, _, rfl, rfl, h, at0 rfl, ?_⟩
      refine ⟨_, rfl, _, _, rfl, .str _, _, rfl, strT, rfl, _, rfl, iteF ?_⟩
      refine ⟨_, rfl, T.w_LENGTHS, T.y_LENGTHS, _, rfl, _, _, rfl, T.g_len _, ?_⟩
      refine ⟨_, rfl, a, _, rfl, .inr h, by cases lenOf z <;> rfl, _, rfl, ?_⟩
      have e1 : (!decide (((lenOf z).map V.int).getD .non = V.int (((V.str z :: xs).length : Nat) : Int))) = true := by
        rw [decide_eq_false]
        · rfl
        · cases e : lenOf z with
          | none => exact fun z => by cases z
          | some i => exact fun y => ne (e.trans (congrArg some (V.int.inj y)))
      rw [e1]
      exact iteT q
    | sign h t zs no =>
      refine ⟨_, rfl, _, _, rfl, .tup h, _, rfl, tupT, rfl, _, rfl, iteF ?_⟩
      refine ⟨_, rfl, _, _, rfl, .inr h, rfl, _, rfl, iteF ?_⟩
      refine ⟨_, rfl, _, _, _, _, rfl, rfl, h, at0 rfl, ?_⟩
      refine ⟨_, rfl, _, _, rfl, .str _, _, rfl, strT, rfl, _, rfl, iteF ?_⟩
      refine ⟨_, rfl, T.w_LENGTHS, T.y_LENGTHS, _, rfl, _, _, rfl, T.g_len _, ?_⟩
      refine ⟨_, rfl, _, _, rfl, .inr h, rfl, _, rfl, iteF ?_⟩
      refine ⟨_, rfl, rfl, _, rfl, iteT ?_⟩
      refine ⟨_, rfl, _, _, _, _, rfl, rfl, h, at1 rfl, _, _, rfl, t, zs, ?_⟩
      rw [no]
      exact q
    | group h t no =>
      refine ⟨_, rfl, _, _, rfl, .tup h, _, rfl, tupT, rfl, _, rfl, iteF ?_⟩
      refine ⟨_, rfl, _, _, rfl, .inr h, rfl, _, rfl, iteF ?_⟩
      refine ⟨_, rfl, _, _, _, _, rfl, rfl, h, at0 rfl, ?_⟩
      refine ⟨_, rfl, _, _, rfl, .str _, _, rfl, strT, rfl, _, rfl, iteF ?_⟩
      refine ⟨_, rfl, T.w_LENGTHS, T.y_LENGTHS, _, rfl, _, _, rfl, T.g_len _, ?_⟩
      refine ⟨_, rfl, _, _, rfl, .inr h, rfl, _, rfl, iteF ?_⟩
      refine ⟨_, rfl, rfl, _, rfl, iteF ?_⟩
      refine ⟨_, rfl, rfl, _, rfl, iteT ?_⟩
      refine ⟨_, rfl, _, _, _, _, rfl, rfl, h, at1 rfl, _, _, rfl, t, ?_⟩
      rw [no]
      exact q

end
end G1

set_option maxRecDepth 100000
set_option maxHeartbeats 4000000
namespace G1
open PySem PySem.Spec PyProof.Rows L2 Gm
section
variable {P : Program} {w : World} {K : PySem.W.Frag} {mg : Str → Option Value} {base : Heap}
def sp_inner (K : PySem.W.Frag) : Sp := fun vs H Q _ => ∃ (p : Pat) (v : V), vs = [v] ∧ PAt K H p v ∧
  ∀ (r : Addr) (ws : List V) (H' : Hp), Same H H' → H r = none → H' r = some (.lst ws) → PAts K H' (kids p) ws → Q (.ref r) H'
def sp_innerN (K : PySem.W.Frag) : Sp := fun vs H Q _ => ∃ (p : Pat) (ws : List V) (v : V), vs = [v] ∧ Nod K H p ws v ∧
  ∀ (r : Addr) (H' : Hp), Same H H' → H r = none → H' r = some (.lst ws) → Q (.ref r) H'
theorem ok__innerN (T : Txt w K mg) : FnOk P w K mg base CX0 1 T.f__inner T.fd__inner ["part"] (sp_innerN K) := by
  refine T.F__inner.ok sc__inner (fun vs H Q E h => ?_) (fun cdv A outer s H vs Q E hr h => ?_)
  · obtain ⟨p, ws, v, rfl, _⟩ := h
    rfl
  obtain ⟨p, ws, v, rfl, ⟨a, rfl, ht, hl, _⟩, q⟩ := h
  refine ⟨_, (pss_cons (ps_if (pt_cmpR op_in_seq (pe_ix ix_tup (pv 0) pe_int (fun _ _ => rfl)) (pe_tup (pa_cons pe_str (pa_cons pe_str pa_nil))) (by rfl))
    (pss_one (ps_ret (pe_lst (pa_cons (pe_ix ix_tup (pv 0) pe_int (fun _ _ => rfl)) (pa_cons (pe_ix ix_tup (pv 0) pe_int (fun _ _ => rfl)) pa_nil)))))
    pss_nil)
  (pss_cons (ps_if (pt_cmpR op_in_seq (pe_ix ix_tup (pv 0) pe_int (fun _ _ => rfl)) (pe_tup (pa_cons pe_str (pa_cons pe_str pa_nil))) (by rfl))
    (pss_one (ps_ret (pe_lst (pa_cons (pe_ix ix_tup (pv 0) pe_int (fun _ _ => rfl)) pa_nil))))
    pss_nil)
  (pss_cons (ps_if (pt_cmpR op_eq (pe_ix ix_tup (pv 0) pe_int (fun _ _ => rfl)) pe_str (nomark _))
    (pss_one (ps_ret (pe_lst (pa_cons (pe_ix ix_tup (pv 0) pe_int (fun _ _ => rfl)) pa_nil))))
    pss_nil)
  (pss_one (ps_ret (pe_lst pa_nil)))))), ?_⟩
  refine ⟨_, rfl, _, _, _, _, rfl, rfl, ht, at0 rfl, (by show 2 ≤ sizeLine; exact sz (by decide)), fun t1 n1 => ⟨_, _, rfl, .inr (SqT.of upd_same), rfl, rfl, _, rfl, ?_⟩⟩
  have s1 := same_new (o := .tup [.str "row", .str "or"]) n1
  have ht1 := TS.of (K := K) s1 _ _ ht
  cases p with
  | row p1 p2 =>
    obtain ⟨x, y, rfl⟩ := l2 hl
    refine iteT ?_
    refine ⟨_, rfl, _, _, _, _, rfl, rfl, ht1, at1 rfl, _, rfl, _, _, _, _, rfl, rfl, ht1, at2 rfl, (by show 2 ≤ sizeLine; exact sz (by decide)), fun r hr => ?_⟩
    exact q r _ (s1.trans (same_new hr)) (s1.free hr) upd_same
  | or p1 p2 =>
    obtain ⟨x, y, rfl⟩ := l2 hl
    refine iteT ?_
    refine ⟨_, rfl, _, _, _, _, rfl, rfl, ht1, at1 rfl, _, rfl, _, _, _, _, rfl, rfl, ht1, at2 rfl, (by show 2 ≤ sizeLine; exact sz (by decide)), fun r hr => ?_⟩
    exact q r _ (s1.trans (same_new hr)) (s1.free hr) upd_same
  | more p1 =>
    obtain ⟨x, rfl⟩ := l1 hl
    refine iteF ?_
    refine ⟨_, rfl, _, _, _, _, rfl, rfl, ht1, at0 rfl, (by show 2 ≤ sizeLine; exact sz (by decide)), fun t2 n2 => ⟨_, _, rfl, .inr (SqT.of upd_same), rfl, rfl, _, rfl, iteT ?_⟩⟩
    have s2 := s1.trans (same_new (o := .tup [.str "more", .str "less"]) n2)
    have ht2 := TS.of (K := K) s2 _ _ ht
    refine ⟨_, rfl, _, _, _, _, rfl, rfl, ht2, at1 rfl, (by show 1 ≤ sizeLine; exact sz (by decide)), fun r hr => ?_⟩
    exact q r _ (s2.trans (same_new hr)) (s2.free hr) upd_same
  | less p1 =>
    obtain ⟨x, rfl⟩ := l1 hl
    refine iteF ?_
    refine ⟨_, rfl, _, _, _, _, rfl, rfl, ht1, at0 rfl, (by show 2 ≤ sizeLine; exact sz (by decide)), fun t2 n2 => ⟨_, _, rfl, .inr (SqT.of upd_same), rfl, rfl, _, rfl, iteT ?_⟩⟩
    have s2 := s1.trans (same_new (o := .tup [.str "more", .str "less"]) n2)
    have ht2 := TS.of (K := K) s2 _ _ ht
    refine ⟨_, rfl, _, _, _, _, rfl, rfl, ht2, at1 rfl, (by show 1 ≤ sizeLine; exact sz (by decide)), fun r hr => ?_⟩
    exact q r _ (s2.trans (same_new hr)) (s2.free hr) upd_same
  | group n p1 =>
    obtain ⟨x, rfl⟩ := l1 hl
    refine iteF ?_
    refine ⟨_, rfl, _, _, _, _, rfl, rfl, ht1, at0 rfl, (by show 2 ≤ sizeLine; exact sz (by decide)), fun t2 n2 => ⟨_, _, rfl, .inr (SqT.of upd_same), rfl, rfl, _, rfl, iteF ?_⟩⟩
    have s2 := s1.trans (same_new (o := .tup [.str "more", .str "less"]) n2)
    have ht2 := TS.of (K := K) s2 _ _ ht
    refine ⟨_, rfl, _, _, _, _, rfl, rfl, ht2, at0 rfl, rfl, _, rfl, iteT ?_⟩
    refine ⟨_, rfl, _, _, _, _, rfl, rfl, ht2, at2 rfl, (by show 1 ≤ sizeLine; exact sz (by decide)), fun r hr => ?_⟩
    exact q r _ (s2.trans (same_new hr)) (s2.free hr) upd_same
  | _ =>
    obtain rfl := l0 hl
    refine iteF ?_
    refine ⟨_, rfl, _, _, _, _, rfl, rfl, ht1, at0 rfl, (by show 2 ≤ sizeLine; exact sz (by decide)), fun t2 n2 => ⟨_, _, rfl, .inr (SqT.of upd_same), rfl, rfl, _, rfl, iteF ?_⟩⟩
    have s2 := s1.trans (same_new (o := .tup [.str "more", .str "less"]) n2)
    have ht2 := TS.of (K := K) s2 _ _ ht
    refine ⟨_, rfl, _, _, _, _, rfl, rfl, ht2, at0 rfl, rfl, _, rfl, iteF ?_⟩
    refine ⟨Nat.zero_le _, fun r hr => ?_⟩
    exact q r _ (s2.trans (same_new hr)) (s2.free hr) upd_same
theorem ok__inner (T : Txt w K mg) : FnOk P w K mg base CX0 1 T.f__inner T.fd__inner ["part"] (sp_inner K) :=
  (ok__innerN T).imp fun vs H Q E h => by
    obtain ⟨p, v, rfl, hp, q⟩ := h
    obtain ⟨ws, n, k⟩ := hp.nod
    exact ⟨p, ws, v, rfl, n, fun r H' s1 hr h1 => q r ws H' s1 hr h1 (PAts.mono (TS.of s1) k)⟩

end
end G1

set_option maxRecDepth 100000
set_option maxHeartbeats 4000000
namespace G1
open PySem PySem.Spec PyProof.Rows L2 Gm
section
variable {P : Program} {w : World} {K : PySem.W.Frag} {mg : Str → Option Value} {base : Heap}
def sp_may (K : PySem.W.Frag) : Sp := fun vs H Q _ => ∃ (z : Str) (a : Addr) (bs : List Bool), vs = [.str z, .ref a] ∧ SqL K H a (bs.map V.bl) ∧
  ∀ (H' : Hp), Same H H' → Q (.bl (mtn z bs)) H'
theorem ok__may_take_nothing (T : Txt w K mg) : FnOk P w K mg base CX0 1 T.f__may_take_nothing T.fd__may_take_nothing ["name", "inner_answers"] (sp_may K) := by
  refine T.F__may_take_nothing.ok sc__may_take_nothing (fun vs H Q E h => ?_) (fun cdv A outer s H vs Q E hr h => ?_)
  · obtain ⟨z, a, bs, rfl, _⟩ := h
    rfl
  obtain ⟨z, a, bs, rfl, ha, q⟩ := h
  refine ⟨_, (pss_cons (ps_if (pt_cmpR op_in_seq (pv 0) (pe_tup (pa_cons pe_str (pa_cons pe_str (pa_cons pe_str pa_nil)))) (by rfl))
    (pss_one (ps_ret pe_bl))
    pss_nil)
  (pss_cons (ps_if (pt_cmpR op_in_seq (pv 0) (pe_tup (pa_cons pe_str (pa_cons pe_str pa_nil))) (by rfl))
    (pss_one (ps_ret (pe_callB (cr_all rfl) (by rfl) T.n_all (by decide +kernel) (pa_cons (pv 1) pa_nil))))
    pss_nil)
  (pss_one (ps_ret (pe_callB (cr_any rfl) (by rfl) T.n_any (by decide +kernel) (pa_cons (pv 1) pa_nil)))))), ?_⟩
  refine ⟨_, rfl, ⟨(by show 3 ≤ sizeLine; exact sz (by decide)), fun t1 n1 => ⟨_, _, rfl, .inr (SqT.of upd_same), rfl, rfl, _, rfl, ?_⟩⟩⟩
  have s1 := same_new (o := .tup [.str "none", .str "more", .str "less"]) n1
  rw [inV3]
  refine ite2 (fun c => ?_) (fun c => ?_)
  · have e : mtn z bs = true := by
      unfold mtn
      rw [if_pos (of_decide_eq_true c)]
    have := q _ s1
    rw [e] at this
    exact this
  · refine ⟨_, rfl, ⟨(by show 2 ≤ sizeLine; exact sz (by decide)), fun t2 n2 => ⟨_, _, rfl, .inr (SqT.of upd_same), rfl, rfl, _, rfl, ?_⟩⟩⟩
    have s2 := s1.trans (same_new (o := .tup [.str "row", .str "group"]) n2)
    rw [inV2]
    have c' := of_decide_eq_false (Bool.eq_false_iff.mpr c)
    refine ite2 (fun d => ?_) (fun d => ?_)
    · have e : mtn z bs = bs.all id := by
        unfold mtn
        rw [if_neg c', if_pos (of_decide_eq_true d)]
      have := q _ s2
      rw [e] at this
      exact ⟨_, rfl, a, bs, rfl, s2.seq ha, this⟩
    · have e : mtn z bs = bs.any id := by
        unfold mtn
        rw [if_neg c', if_neg (of_decide_eq_false (Bool.eq_false_iff.mpr d))]
      have := q _ s2
      rw [e] at this
      exact ⟨_, rfl, a, bs, rfl, s2.seq ha, this⟩

end
end G1

set_option maxRecDepth 100000
set_option maxHeartbeats 4000000
namespace G1
open PySem PySem.Spec PyProof.Rows L2 Gm
section
variable {P : Program} {w : World} {K : PySem.W.Frag} {mg : Str → Option Value} {base : Heap}
theorem nod_mono {H H' : Hp} {p : Pat} {ws : List V} {v : V} (e : TS K H H') (n : Nod K H p ws v) : Nod K H' p ws v := by
  obtain ⟨a, ev, ht, hl, hn⟩ := n
  exact ⟨a, ev, e _ _ ht, hl, hn⟩
def sp_parts (K : PySem.W.Frag) (C : Addr) : Sp := fun vs H Q E => ∃ v : V, vs = [v] ∧
  ((∃ p : Pat, PAt K H p v ∧ siz p ≤ 1000 ∧ ∀ (r : Addr) (fs : List V) (H' : Hp), Same H H' → H r = none → H' r = some (.lst fs) → PAts K H' (subs p) fs → Q (.ref r) H') ∨
   (∃ t : PT, TAt K H t v ∧ thas t = true ∧ tsz t ≤ 1000 ∧ ∀ H' : Hp, Same H H' → E (.ref C) none H'))
def pInv (K : PySem.W.Frag) (H : Hp) (v : V) (lf lw : Addr) (p : Pat) (m : Nat) (σ : L2.St) (H' : Hp) : Prop :=
  ∃ (F W : List Pat) (fs ws : List V) (x : Option V), σ = [some v, some (.ref lf), some (.ref lw), x] ∧ Same H H' ∧ H' lf = some (.lst fs) ∧ H' lw = some (.lst ws.reverse) ∧
    PAts K H' F fs ∧ PAts K H' W ws ∧ subs p = F ++ subsL W ∧ m = (subsL W).length
def bInv (K : PySem.W.Frag) (H : Hp) (v : V) (lf lw : Addr) (m : Nat) (σ : L2.St) (H' : Hp) : Prop :=
  ∃ (W : List PT) (fs ws : List V) (x : Option V), σ = [some v, some (.ref lf), some (.ref lw), x] ∧ Same H H' ∧ H' lf = some (.lst fs) ∧ H' lw = some (.lst ws.reverse) ∧
    Paired (TAt K H') W ws ∧ W.any thas = true ∧ fs.length + tszs W ≤ 1000 ∧ m = tszs W
theorem tats_mono {H H' : Hp} (e : TL K H H') {L : List PT} {vs : List V} (h : Paired (TAt K H) L vs) : Paired (TAt K H') L vs := Paired.mapP h fun _ _ z => z.mono e
theorem tszs_app (A B : List PT) : tszs (A ++ B) = tszs A + tszs B := by
  unfold tszs
  rw [List.map_append, List.sum_append]
theorem ok_parts (T : Txt w K mg) : FnOk P w K mg base (L2N.CX P w) 3 T.f_parts T.fd_parts ["pattern"] (sp_parts K T.c_BadPattern) := by
  refine okN T.F_parts sc_parts (fun vs H Q E h => ?_) (fun cdv A outer s H vs Q E hr h => ?_)
  · obtain ⟨v, rfl, _⟩ := h
    rfl
  obtain ⟨v, rfl, h⟩ := h
  refine ⟨_, (pss_cons (ps_set (i := 1) sc_parts.nd rfl (.inl rfl) (pe_lst pa_nil))
  (pss_cons (ps_set (i := 2) sc_parts.nd rfl (.inl rfl) (pe_lst (pa_cons (pv 0) pa_nil)))
  (pss_cons (ps_while (passes_of rfl) (pt_truth (pv 2) (by intro _; rfl))
   (pss_cons (ps_set (i := 3) sc_parts.nd rfl (.inl rfl) (pe_bm0 PySem.F.plainAttrs_list PySem.F.slot_list_pop PySem.F.type_list_pop mt_pop (pv 2)))
  (pss_cons (ps_if (pt_not (pt_val (pe_call (ok__has_form T) (hr.mono (by decide)) (by rfl) T.m__has_form T.F__has_form.kp T.b__has_form .nil pass0 (pa_cons (pv 3) pa_nil))))
    (pss_one (L2N.ps_raise rfl (L2N.takes_of rfl rfl rfl rfl) (L2N.pmk_own PySem.F.excBase_ValueError T.x_BadPattern T.g_BadPattern T.k_BadPattern (raises_own T.b_BadPattern T.t_BadPattern) (by exact rfl))))
    pss_nil)
  (pss_cons (ps_expr (pe_bm PySem.F.plainAttrs_list PySem.F.slot_list_append PySem.F.type_list_append mt_append (pv 1) (pa_cons (pv 3) pa_nil)))
  (pss_one (ps_expr (pe_bm PySem.F.plainAttrs_list PySem.F.slot_list_extend PySem.F.type_list_extend mt_extend (pv 2) (pa_cons (pe_revL (pe_call (ok__innerN T) (hr.mono (by decide)) (by rfl) T.m__inner T.F__inner.kp T.b__inner .nil pass0 (pa_cons (pv 3) pa_nil))) pa_nil))))))))
  (pss_one (ps_ret (pv 1)))))), ?_⟩
  refine ⟨Nat.zero_le _, fun lf nf => ?_⟩
  refine ⟨_, rfl, sz (by show 1 ≤ 10000; decide), fun lw nw => ?_⟩
  have nlw : lw ≠ lf := fun z => by
    rw [z, upd_same] at nw
    cases nw
  have nw0 : H lw = none := by
    rw [upd_ne nlw] at nw
    exact nw
  have s0 : Same H (upd (upd H lf (.lst [])) lw (.lst [v])) := (same_new nf).trans (same_new nw)
  have f0 : upd (upd H lf (.lst [])) lw (.lst [v]) lf = some (.lst []) := by
    rw [upd_ne nlw.symm]
    exact upd_same
  rcases h with ⟨p, hp, hz, q⟩ | ⟨t, hp, hb, hz, q⟩
  · refine ⟨pInv K H v lf lw p, ⟨_, [], [p], [], [v], none, rfl, s0, f0, upd_same, .nil, .cons (hp.mono (TS.of s0)) .nil, ?_, rfl⟩, ?_⟩
    · rw [subsL_cons, subsL_nil, List.append_nil, List.nil_append]
    rintro m σ H1 ⟨F, W, fs, ws, x, rfl, s1, hf, hw, pf, pw, es, rfl⟩
    cases pw with
    | nil =>
      refine ⟨_, rfl, false, .inl ⟨_, SqL.of hw, rfl⟩, iteF ?_⟩
      refine ⟨_, rfl, ?_⟩
      rw [subsL_nil, List.append_nil] at es
      rw [← es] at pf
      exact q lf fs H1 s1 nf hf pf
    | @cons p1 v1 W' ws' h1 hW =>
      rw [List.reverse_cons] at hw
      refine ⟨_, rfl, true, .inl ⟨_, SqL.of hw, by simp⟩, iteT ?_⟩
      have el : (subsL (p1 :: W')).length = 1 + (subsL (kids p1 ++ W')).length := by
        rw [subsL_cons, subs_eq, subsL_app, List.cons_append, List.length_cons]
        omega
      have tot : F.length + (subsL (p1 :: W')).length ≤ 1000 := by
        have : (subs p).length ≤ 1000 := hz
        rw [es, List.length_append] at this
        exact this
      obtain ⟨ks, nd, hk⟩ := h1.nod
      refine ⟨pInv K H v lf lw p (subsL (kids p1 ++ W')).length, fun σ' H' hI => ⟨_, by rw [el]; omega, hI⟩, ?_⟩
      refine ⟨_, rfl, .inl ⟨rfl, _, SqL.of hw⟩, lw, _, v1, rfl, rfl, hw, last_get _ _, ?_⟩
      rw [List.dropLast_concat]
      have t1 : TS K H1 (upd H1 lw (.lst ws'.reverse)) := TS.lst hw
      refine ⟨_, rfl, v1, rfl, .inl ⟨p1, ks, nod_mono t1 nd, _, rfl, iteF ?_⟩⟩
      have hf1 : upd H1 lw (.lst ws'.reverse) lf = some (.lst fs) := by
        rw [upd_ne nlw.symm]
        exact hf
      have lf1 : F.length = fs.length := Paired.length pf
      refine ⟨_, rfl, .inl ⟨rfl, _, SqL.of hf1⟩, _, rfl, lf, fs, v1, rfl, rfl, hf1, szl (by omega), ?_⟩
      have t2 := t1.trans (TS.lst (K := K) (ys := fs ++ [v1]) hf1)
      have hw2 : upd (upd H1 lw (.lst ws'.reverse)) lf (.lst (fs ++ [v1])) lw = some (.lst ws'.reverse) := by
        rw [upd_ne nlw]
        exact upd_same
      refine ⟨_, rfl, .inl ⟨rfl, _, SqL.of hw2⟩, _, rfl, p1, ks, v1, rfl, nod_mono t2 nd, fun r H2 s2 nr hr2 => ⟨r, ks, rfl, SqL.of hr2, fun r2 nr2 => ?_⟩⟩
      have s3 := s2.trans (same_new (o := .lst ks.reverse) nr2)
      have lk : (kids p1).length = ks.length := Paired.length hk
      have lw1 : W'.length = ws'.length := Paired.length hW
      refine ⟨lw, r2, _, _, rfl, rfl, s3 _ _ hw2, upd_same, ?_, ?_⟩
      · rw [List.length_reverse, List.length_reverse]
        have := subsL_pos (kids p1 ++ W')
        rw [List.length_append] at this
        exact sz (by omega)
      have hwA := s3 _ _ hw2
      have t3 := t2.trans (TS.of (K := K) s3)
      have t4 := t3.trans (TS.lst (K := K) (ys := ws'.reverse ++ ks.reverse) hwA)
      refine ⟨F ++ [p1], kids p1 ++ W', fs ++ [v1], ks ++ ws', some v1, rfl, ?_, ?_, ?_, ?_, ?_, ?_, rfl⟩
      · exact Same.mut (Same.trans (Same.mut (Same.mut s1 nw0) nf) s3) nw0
      · rw [upd_ne nlw.symm]
        exact s3 _ _ upd_same
      · rw [List.reverse_append]
        exact upd_same
      · exact Paired.snoc (PAts.mono t4 pf) (h1.mono t4)
      · exact Paired.app (PAts.mono t4 hk) (PAts.mono t4 hW)
      · rw [es, subsL_cons, subs_eq, subsL_app]
        simp
  · refine ⟨bInv K H v lf lw, ⟨_, [t], [], [v], none, rfl, s0, f0, upd_same, .cons (hp.mono (TL.of s0)) .nil, by simp [hb], by simpa [tszs] using hz, rfl⟩, ?_⟩
    rintro m σ H1 ⟨W, fs, ws, x, rfl, s1, hf, hw, pw, hb, tot, rfl⟩
    cases pw with
    | nil => cases hb
    | @cons t1 v1 W' ws' h1 hW =>
      rw [List.reverse_cons] at hw
      refine ⟨_, rfl, true, .inl ⟨_, SqL.of hw, by simp⟩, iteT ?_⟩
      refine ⟨bInv K H v lf lw (tszs (tkids t1 ++ W')), fun σ' H' hI => ⟨tszs (tkids t1 ++ W'), ?_, hI⟩, ?_⟩
      · rw [tszs_app]
        show tszs (tkids t1) + tszs W' < tsz t1 + tszs W'
        by_cases e : t1 = .bad
        · subst e
          show 0 + tszs W' < 1 + tszs W'
          omega
        · rw [tszs_kids e]
          omega
      refine ⟨_, rfl, .inl ⟨rfl, _, SqL.of hw⟩, lw, _, v1, rfl, rfl, hw, last_get _ _, ?_⟩
      rw [List.dropLast_concat]
      have t1' : TL K H1 (upd H1 lw (.lst ws'.reverse)) := TL.lst hw
      rcases h1.nod with ⟨_, bad⟩ | ⟨nb, ks, nd, hk⟩
      · refine ⟨_, rfl, v1, rfl, .inr ⟨bad.mono t1', _, rfl, iteT ?_⟩⟩
        exact q _ (Same.mut s1 nw0)
      have tk := tszs_kids nb
      have tt : fs.length + (tsz t1 + tszs W') ≤ 1000 := tot
      refine ⟨_, rfl, v1, rfl, .inl ⟨thd t1, ks, nod_mono t1'.ts nd, _, rfl, iteF ?_⟩⟩
      have hf1 : upd H1 lw (.lst ws'.reverse) lf = some (.lst fs) := by
        rw [upd_ne nlw.symm]
        exact hf
      refine ⟨_, rfl, .inl ⟨rfl, _, SqL.of hf1⟩, _, rfl, lf, fs, v1, rfl, rfl, hf1, szl (by omega), ?_⟩
      have t2 := t1'.trans (TL.lst (K := K) (ys := fs ++ [v1]) hf1)
      have hw2 : upd (upd H1 lw (.lst ws'.reverse)) lf (.lst (fs ++ [v1])) lw = some (.lst ws'.reverse) := by
        rw [upd_ne nlw]
        exact upd_same
      refine ⟨_, rfl, .inl ⟨rfl, _, SqL.of hw2⟩, _, rfl, thd t1, ks, v1, rfl, nod_mono t2.ts nd, fun r H2 s2 nr hr2 => ⟨r, ks, rfl, SqL.of hr2, fun r2 nr2 => ?_⟩⟩
      have s3 := s2.trans (same_new (o := .lst ks.reverse) nr2)
      have lk : (tkids t1).length = ks.length := Paired.length hk
      have lw1 : W'.length = ws'.length := Paired.length hW
      refine ⟨lw, r2, _, _, rfl, rfl, s3 _ _ hw2, upd_same, ?_, ?_⟩
      · rw [List.length_reverse, List.length_reverse]
        have a1 := tszs_pos (tkids t1)
        have a2 := tszs_pos W'
        exact sz (by omega)
      have hwA := s3 _ _ hw2
      have t3 := t2.trans (TL.of (K := K) s3)
      have t4 := t3.trans (TL.lst (K := K) (ys := ws'.reverse ++ ks.reverse) hwA)
      refine ⟨tkids t1 ++ W', fs ++ [v1], ks ++ ws', some v1, rfl, ?_, ?_, ?_, ?_, ?_, ?_, rfl⟩
      · exact Same.mut (Same.trans (Same.mut (Same.mut s1 nw0) nf) s3) nw0
      · rw [upd_ne nlw.symm]
        exact s3 _ _ upd_same
      · rw [List.reverse_append]
        exact upd_same
      · exact Paired.app (tats_mono t4 hk) (tats_mono t4 hW)
      · rw [List.any_append]
        rw [List.any_cons] at hb
        rcases (Bool.or_eq_true _ _).mp hb with z | z
        · rw [thas_kids nb z, Bool.true_or]
        · rw [z, Bool.or_true]
      · rw [List.length_append, tszs_app]
        show fs.length + 1 + _ ≤ 1000
        omega

end
end G1

set_option maxRecDepth 100000
set_option maxHeartbeats 4000000
namespace G1
open PySem PySem.Spec PyProof.Rows L2 Gm
section
variable {P : Program} {w : World} {K : PySem.W.Frag} {mg : Str → Option Value} {base : Heap}
def sp_takings (K : PySem.W.Frag) : Sp := fun vs H Q _ => ∃ (L : List Pat) (a : Addr) (fs : List V), vs = [.ref a] ∧ SqL K H a fs ∧ PAts K H L fs ∧ okL L ∧ L.length ≤ 1000 ∧
  ∀ (r : Addr) (H' : Hp), Same H H' → H r = none → H' r = some (.lst ((tk L).map V.bl)) → Q (.ref r) H'
theorem drop_pre {α : Type} {L : List α} {k : Nat} {x : α} (h : L[k]? = some x) : L.drop k = x :: L.drop (k + 1) := by
  obtain ⟨h1, h2⟩ := List.getElem?_eq_some_iff.mp h
  rw [← h2]
  exact List.drop_eq_getElem_cons h1
theorem ok__takings (T : Txt w K mg) : FnOk P w K mg base CX0 2 T.f__takings T.fd__takings ["found"] (sp_takings K) := by
  refine T.F__takings.ok sc__takings (fun vs H Q E h => ?_) (fun cdv A outer s H vs Q E hr h => ?_)
  · obtain ⟨L, a, fs, rfl, _⟩ := h
    rfl
  obtain ⟨L, a, fs, rfl, ha, hL, hok, hz, q⟩ := h
  have ll : L.length = fs.length := Paired.length hL
  refine ⟨_, (pss_cons (ps_set (i := 1) sc__takings.nd rfl (.inl rfl) (pe_lst pa_nil))
  (pss_cons (ps_set (i := 2) sc__takings.nd rfl (.inr rfl) (pe_lst pa_nil))
  (pss_cons (ps_for PassesOwn.never rfl (pi_reversed (by rfl) T.n_reversed (pa_cons (pv 0) pa_nil)) (pg_name (i := 3) sc__takings.nd rfl (.inl rfl))
   (pss_cons (ps_setLc (i := 4) (own := [("_", 6)]) (g := gName 6) (te := tBM0 K "list" rPop (tVar 2)) rfl sc__takings.nd rfl rfl (sw_true rfl rfl rfl (by decide +kernel)) (pi_list (pe_call (ok__inner T) (hr.mono (by decide)) (by rfl) T.m__inner T.F__inner.kp T.b__inner .nil pass0 (pa_cons (pv 3) pa_nil))) (blkOk_by (own := [("_", 6)]) (N := N__takings) (sc := defScope s__takings) (by decide +kernel)) (fun _ _ _ _ _ => by exact (pg_name (i := 6) sc__takings.nd rfl (.inl rfl))) (fun _ _ _ _ _ => by exact pts_nil) (fun _ _ _ _ _ => by exact (pe_bm0 PySem.F.plainAttrs_list PySem.F.slot_list_pop PySem.F.type_list_pop mt_pop (pv 2))))
  (pss_cons (ps_set (i := 5) sc__takings.nd rfl (.inl rfl) (pe_call (ok__may_take_nothing T) (hr.mono (by decide)) (by rfl) T.m__may_take_nothing T.F__may_take_nothing.kp T.b__may_take_nothing .nil pass0 (pa_cons (pe_ix ix_tup (pv 3) pe_int (fun _ _ => rfl)) (pa_cons (pv 4) pa_nil))))
  (pss_cons (ps_expr (pe_bm PySem.F.plainAttrs_list PySem.F.slot_list_append PySem.F.type_list_append mt_append (pv 2) (pa_cons (pv 5) pa_nil)))
  (pss_one (ps_expr (pe_bm PySem.F.plainAttrs_list PySem.F.slot_list_append PySem.F.type_list_append mt_append (pv 1) (pa_cons (pv 5) pa_nil))))))))
  (pss_one (ps_ret (pe_revL (pv 1))))))), ?_⟩
  refine ⟨Nat.zero_le _, fun lt nt => ?_⟩
  refine ⟨Nat.zero_le _, fun lo no => ?_⟩
  have nlo : lo ≠ lt := fun z => by
    rw [z, upd_same] at no
    cases no
  have no0 : H lo = none := by
    rw [upd_ne nlo] at no
    exact no
  have s0 := (same_new (o := .lst []) nt).trans (same_new (o := .lst []) no)
  refine ⟨_, rfl, a, fs, rfl, s0.seq ha, ?_⟩
  refine ⟨fun i m σ H' => m + i = fs.length ∧ ∃ (x1 x2 x3 : Option V), σ = [some (.ref a), some (.ref lt), some (.ref lo), x1, x2, x3, none] ∧ Same H H' ∧
    H' lt = some (.lst ((tk (L.drop m)).reverse.map V.bl)) ∧ H' lo = some (.lst ((stk (L.drop m)).reverse.map V.bl)), ⟨fs.length, by omega, none, none, none, rfl, s0, ?_, ?_⟩, ?_⟩
  · rw [upd_ne nlo.symm, ← ll, List.drop_length]
    exact upd_same
  · rw [← ll, List.drop_length]
    exact upd_same
  rintro i m σ H1 ⟨em, x1, x2, x3, rfl, s1, ht, ho⟩
  by_cases hi : m = 0
  · left
    refine ⟨by show fs.length ≤ i; omega, ?_⟩
    subst hi
    refine ⟨_, rfl, lt, _, rfl, SqL.of ht, fun r nr => ?_⟩
    refine q r _ (s1.trans (same_new nr)) (s1.free nr) ?_
    rw [upd_same]
    simp
  right
  obtain ⟨k, rfl⟩ : ∃ k, m = k + 1 := ⟨m - 1, by omega⟩
  have hk : fs.length - 1 - i = k := by omega
  refine ⟨⟨by omega, fs, fs[k]'(by omega), s1.seq ha, by rw [hk]; exact List.getElem?_eq_getElem _⟩, fun σ' H' => k + (i + 1) = fs.length ∧ ∃ (x1 x2 x3 : Option V), σ' = [some (.ref a), some (.ref lt), some (.ref lo), x1, x2, x3, none] ∧ Same H H' ∧
    H' lt = some (.lst ((tk (L.drop k)).reverse.map V.bl)) ∧ H' lo = some (.lst ((stk (L.drop k)).reverse.map V.bl)), fun σ' H' hN => ⟨k, by omega, hN⟩, ?_⟩
  rintro v H2 ⟨rfl, hv⟩
  have hv := hv fs (s1.seq ha)
  rw [hk] at hv
  obtain ⟨p, hp, pv⟩ := Paired.at hL hv
  have ed : L.drop k = p :: L.drop (k + 1) := drop_pre hp
  have hokk := okL_drop k hok
  rw [ed] at hokk
  obtain ⟨hlen, _⟩ := hokk
  have lst := stk_le (L.drop (k + 1))
  have ltk := tk_length (L.drop (k + 1))
  rw [List.length_drop] at lst ltk
  obtain ⟨b, wsn, rfl, hb, _⟩ := pv.node
  -- the answers of the inner ones
  refine ⟨_, rfl, p, _, rfl, pv.mono (TS.of s1), fun r ks H3 s3 nr hr3 hks => ⟨r, rfl, ⟨_, SqL.of hr3⟩, fun D nD => ?_⟩⟩
  have lks : (kids p).length = ks.length := Paired.length hks
  have nDlo : lo ≠ D := ne_of_none (s3 _ _ ho) nD
  have nDlt : lt ≠ D := ne_of_none (s3 _ _ ht) nD
  have nDr : r ≠ D := ne_of_none hr3 nD
  have nrlo : r ≠ lo := fun z => by
    rw [z, ho] at nr
    cases nr
  have nrlt : r ≠ lt := fun z => by
    rw [z, ht] at nr
    cases nr
  generalize hS : stk (L.drop (k + 1)) = S at *
  generalize hTK : tk (L.drop (k + 1)) = TK at *
  refine lc_list (K := K) (a := r) (xs := ks) (fun j H' => Same H H' ∧ H' r = some (.lst ks) ∧ H' lt = some (.lst (TK.reverse.map V.bl)) ∧ H' lo = some (.lst ((S.drop j).reverse.map V.bl)) ∧ H' D = some (.lst ((S.take j).map V.bl)))
    ⟨?_, ?_, ?_, ?_, ?_⟩ (fun j H' _ hI => SqL.of hI.2.1) ?_ ?_
  · exact (s1.trans s3).trans (same_new nD)
  · rw [upd_ne nDr]
    exact hr3
  · rw [upd_ne nDlt]
    exact s3 _ _ ht
  · rw [upd_ne nDlo]
    exact s3 _ _ ho
  · rw [List.take_zero]
    exact upd_same
  · rintro j y H4 hj ⟨sa, sb, sc, sd, se⟩
    have jl : j < ks.length := (List.getElem?_eq_some_iff.mp hj).1
    have jS : j < S.length := by omega
    refine ⟨rfl, yes_if ?_⟩
    have eS : S.drop j = S[j] :: S.drop (j + 1) := List.drop_eq_getElem_cons jS
    rw [eS, List.reverse_cons, List.map_append] at sd
    refine ⟨_, rfl, .inl ⟨rfl, _, SqL.of sd⟩, lo, _, .bl S[j], rfl, rfl, sd, last_get _ _, ?_⟩
    show ∃ acc, _
    refine ⟨(S.take j).map V.bl, ?_, ?_, ?_⟩
    · rw [upd_ne nDlo.symm]
      exact se
    · rw [List.length_map, List.length_take]
      exact szl (by omega)
    refine ⟨?_, ?_, ?_, ?_, ?_⟩
    · exact Same.mut (Same.mut sa no0) (s1.free (s3.free nD))
    · rw [upd_ne nDr, upd_ne nrlo]
      exact sb
    · rw [upd_ne nDlt, upd_ne nlo.symm]
      exact sc
    · rw [upd_ne nDlo]
      show upd H4 lo (HO.lst (List.map V.bl (S.drop (j + 1)).reverse ++ [V.bl S[j]]).dropLast) lo = _
      rw [List.dropLast_concat]
      exact upd_same
    · rw [upd_same, ← List.take_append_getElem jS, List.map_append]
      rfl
  · rintro H4 ⟨sa, sb, sc, sd, se⟩
    rw [← lks] at sd se
    have tb := TS.of (K := K) sa _ _ (show SqT K H b _ from hb)
    refine ⟨_, rfl, _, _, _, _, rfl, rfl, tb, at0 rfl, _, rfl, nm p, D, S.take (kids p).length, rfl, SqL.of se, fun H5 s5 => ?_⟩
    have so := s5 _ _ sd
    have st := s5 _ _ sc
    refine ⟨_, rfl, .inl ⟨rfl, _, SqL.of so⟩, _, rfl, lo, _, _, rfl, rfl, so, szl ?_, ?_⟩
    · simp
      omega
    have st2 : upd H5 lo (.lst (((S.drop (kids p).length).reverse.map V.bl) ++ [.bl (mtn (nm p) (S.take (kids p).length))])) lt = some (.lst (TK.reverse.map V.bl)) := by
      rw [upd_ne nlo.symm]
      exact st
    refine ⟨_, rfl, .inl ⟨rfl, _, SqL.of st2⟩, _, rfl, lt, _, _, rfl, rfl, st2, szl ?_, ?_⟩
    · simp
      omega
    refine ⟨by omega, _, _, _, rfl, Same.mut (Same.mut (sa.trans s5) no0) nt, ?_, ?_⟩
    · rw [upd_same, ed]
      show _ = some (HO.lst (List.map V.bl (mtn (nm p) ((stk (L.drop (k + 1))).take (kids p).length) :: tk (L.drop (k + 1))).reverse))
      rw [hS, hTK]
      simp
    · rw [upd_ne nlo, upd_same, ed]
      show _ = some (HO.lst (List.map V.bl (mtn (nm p) ((stk (L.drop (k + 1))).take (kids p).length) :: (stk (L.drop (k + 1))).drop (kids p).length).reverse))
      rw [hS]
      simp

end
end G1

set_option maxRecDepth 100000
set_option maxHeartbeats 4000000
namespace G1
open PySem PySem.Spec PyProof.Rows L2 Gm
section
variable {P : Program} {w : World} {K : PySem.W.Frag} {mg : Str → Option Value} {base : Heap}
def sp_cell_at (K : PySem.W.Frag) : Sp := fun vs H Q _ => ∃ (a : Addr) (ns : List Int) (k : Nat), vs = [.ref a, .int (k : Int)] ∧ SqL K H a (ns.map V.int) ∧ Q (.int (cellAt ns k)) H
theorem ok__law_cell_at (T : Txt w K mg) : FnOk P w K mg base CX0 1 T.f__law_cell_at T.fd__law_cell_at ["_law_script", "_law_k"] (sp_cell_at K) := by
  refine T.F__law_cell_at.ok sc__law_cell_at (fun vs H Q E h => ?_) (fun cdv A outer s H vs Q E hr h => ?_)
  · obtain ⟨a, ns, k, rfl, _⟩ := h
    rfl
  obtain ⟨a, ns, k, rfl, ha, q⟩ := h
  refine ⟨_, (pss_cons (ps_if (pt_cmpR op_lt (pv 1) (pe_callB call_len_seq (by rfl) T.n_len PySem.boot_len (pa_cons (pv 0) pa_nil)) (nomark _))
    (pss_one (ps_ret (pe_ix ix_list (pv 0) (pv 1) (fun _ _ => rfl))))
    pss_nil)
  (pss_one (ps_ret pe_int))), ?_⟩
  refine ⟨_, rfl, _, rfl, a, _, rfl, .inl ha, _, _, rfl, rfl, _, rfl, ?_⟩
  refine ite2 (fun c => ?_) (fun c => ?_)
  · have c' : (k : Int) < (((ns.map V.int).length : Nat) : Int) := of_decide_eq_true c
    rw [List.length_map] at c'
    have hk : k < ns.length := by omega
    refine ⟨_, rfl, _, rfl, a, _, _, .int (cellAt ns k), rfl, rfl, ha, atI_nat ?_, q⟩
    rw [List.getElem?_map, List.getElem?_eq_getElem hk]
    unfold cellAt
    rw [List.getD_eq_getElem?_getD, List.getElem?_eq_getElem hk]
    rfl
  · have c' : ¬ (k : Int) < (((ns.map V.int).length : Nat) : Int) := of_decide_eq_false (Bool.eq_false_iff.mpr c)
    rw [List.length_map] at c'
    have e : cellAt ns k = 0 := by
      unfold cellAt
      rw [List.getD_eq_getElem?_getD, List.getElem?_eq_none (by omega)]
      rfl
    rw [e] at q
    exact q
def sp_sign : Sp := fun vs H Q _ => ∃ c : Int, vs = [.int c] ∧ Q (.str ⟨#[lsg c]⟩) H
theorem ok__law_sign (T : Txt w K mg) : FnOk P w K mg base CX0 1 T.f__law_sign T.fd__law_sign ["_law_cell"] sp_sign := by
  refine T.F__law_sign.ok sc__law_sign (fun vs H Q E h => ?_) (fun cdv A outer s H vs Q E hr h => ?_)
  · obtain ⟨c, rfl, _⟩ := h
    rfl
  obtain ⟨c, rfl, q⟩ := h
  refine ⟨_, (pss_cons (ps_set (i := 1) sc__law_sign.nd rfl (.inl rfl) pe_str)
  (pss_cons (ps_set (i := 1) sc__law_sign.nd rfl (.inl rfl) (pe_op op_add_str (pv 1) pe_str))
  (pss_one (ps_ret (pe_ix ix_str (pv 1) (pe_op op_mod (pv 0) pe_int) (fun _ _ => rfl)))))), ?_⟩
  refine ⟨_, rfl, _, _, rfl, rfl, sz (by decide +kernel), ?_⟩
  refine ⟨_, rfl, _, rfl, _, _, rfl, rfl, (by show (0 : Int) < 95; decide), tabS, _, lsg c, rfl, rfl, sz (by rw [tab_len]; decide), lsg_at c, q⟩

end
end G1

set_option maxRecDepth 100000
set_option maxHeartbeats 4000000
namespace G1
open PySem PySem.Spec PyProof.Rows L2 Gm
section
variable {P : Program} {w : World} {K : PySem.W.Frag} {mg : Str → Option Value} {base : Heap}
def sp_numbers_among (K : PySem.W.Frag) : Sp := fun vs H Q _ => ∃ (L : List Pat) (a : Addr) (fs : List V), vs = [.ref a] ∧ SqL K H a fs ∧ PAts K H L fs ∧ L.length ≤ 1000 ∧
  ∀ (r : Addr) (H' : Hp), Same H H' → H r = none → H' r = some (.lst ((nums L).map V.int)) → Q (.ref r) H'
theorem nums_take {L : List Pat} {i : Nat} {p : Pat} (h : L[i]? = some p) : nums (L.take (i + 1)) = nums (L.take i) ++ nums [p] := by
  obtain ⟨h1, h2⟩ := List.getElem?_eq_some_iff.mp h
  rw [← List.take_append_getElem h1, h2]
  unfold nums
  rw [List.filterMap_append]
theorem nums_len (L : List Pat) : (nums L).length ≤ L.length := List.length_filterMap_le _ _
/-- one turn of the walk that keeps the groups' numbers -/
theorem nums_turn {H0 H : Hp} {D : Addr} {L : List Pat} {fs : List V} {i j : Nat} {v : V} {σ : L2.St} (hn : H0 D = none) (hj : (σ.set j (some v))[j]? = some (some v)) (hL : PAts K H L fs) (hi : fs[i]? = some v) (h1 : Same H0 H) (hz : L.length ≤ 1000)
    (h2 : H D = some (.lst ((nums (L.take i)).map V.int))) :
    tTest (tOp rEq (tOp (rIxT K) (tVar j) (tC (.int 0))) (tC (.str "group"))) (σ.set j (some v)) H fun b H3 => if b = true then tOp (rIxT K) (tVar j) (tC (.int 1)) (σ.set j (some v)) H3 fun y H4 => ∃ acc, H4 D = some (.lst acc) ∧ acc.length < sizeLine ∧
      (Same H0 (upd H4 D (.lst (acc ++ [y]))) ∧ upd H4 D (.lst (acc ++ [y])) D = some (.lst ((nums (L.take (i + 1))).map V.int))) else Same H0 H3 ∧ H3 D = some (.lst ((nums (L.take (i + 1))).map V.int)) := by
  obtain ⟨p, hp, pv⟩ := Paired.at hL hi
  obtain ⟨b, ws, rfl, hb, _⟩ := pv.node
  have hl : (nums (L.take i)).length ≤ 1000 := Nat.le_trans (nums_len _) (by rw [List.length_take]; omega)
  refine ⟨_, hj, _, _, _, _, rfl, rfl, hb, at0 rfl, rfl, _, rfl, ?_⟩
  rw [nums_take hp]
  cases p with
  | group n p =>
    refine iteT ?_
    refine ⟨_, hj, _, _, _, _, rfl, rfl, hb, at1 rfl, _, h2, szl (by rw [List.length_map]; omega), Same.mut h1 hn, ?_⟩
    rw [upd_same, List.map_append]
    rfl
  | _ =>
    refine iteF ⟨h1, ?_⟩
    rw [h2]
    simp [nums]
theorem ok__numbers_among (T : Txt w K mg) : FnOk P w K mg base CX0 1 T.f__numbers_among T.fd__numbers_among ["found"] (sp_numbers_among K) := by
  refine T.F__numbers_among.ok sc__numbers_among (fun vs H Q E h => ?_) (fun cdv A outer s H vs Q E hr h => ?_)
  · obtain ⟨L, a, fs, rfl, _⟩ := h
    rfl
  obtain ⟨L, a, fs, rfl, ha, hL, hz, q⟩ := h
  have ll : L.length = fs.length := Paired.length hL
  refine ⟨_, (pss_one (ps_ret (pe_lc (own := [("part", 1)]) (g := gName 1) (te := tOp (rIxT K) (tVar 1) (tC (.int 1))) (tt := tTest (tOp rEq (tOp (rIxT K) (tVar 1) (tC (.int 0))) (tC (.str "group")))) rfl sc__numbers_among.nd (pi_list (pv 0)) (blkOk_by (own := [("part", 1)]) (N := N__numbers_among) (sc := defScope s__numbers_among) (by decide +kernel)) (fun _ _ _ _ _ => by exact (pg_name (i := 1) sc__numbers_among.nd rfl (.inl rfl))) (fun _ _ _ _ _ => by exact (pts_one (pt_cmpR op_eq (pe_ix ix_tup (pv 1) pe_int (fun _ _ => rfl)) pe_str (nomark _)))) (fun _ _ _ _ _ => by exact (pe_ix ix_tup (pv 1) pe_int (fun _ _ => rfl)))))), ?_⟩
  refine ⟨_, rfl, a, rfl, ⟨_, ha⟩, fun D nD => ?_⟩
  refine lc_list (K := K) (a := a) (xs := fs) (fun i H' => Same H H' ∧ H' D = some (.lst ((nums (L.take i)).map V.int))) ⟨same_new nD, by rw [List.take_zero]; exact upd_same⟩ (fun j H' _ hI => hI.1.seq ha) ?_ ?_
  · rintro i v H1 hi ⟨h1, h2⟩
    exact ⟨rfl, nums_turn nD rfl (hL.mono (TS.of h1)) hi h1 hz h2⟩
  · rintro H1 ⟨h1, h2⟩
    rw [← ll, List.take_length] at h2
    exact q D H1 h1 nD h2

end
end G1

set_option maxRecDepth 100000
set_option maxHeartbeats 4000000
namespace G1
open PySem PySem.Spec PyProof.Rows L2 Gm
section
variable {P : Program} {w : World} {K : PySem.W.Frag} {mg : Str → Option Value} {base : Heap}
def sp_has_twins (K : PySem.W.Frag) : Sp := fun vs H Q _ => ∃ (a : Addr) (ns : List Int), vs = [.ref a] ∧ SqL K H a (ns.map V.int) ∧ ns.length ≤ 1000 ∧ Q (.bl (decide (¬ ns.Nodup))) H
theorem ok__has_twins (T : Txt w K mg) : FnOk P w K mg base CX0 1 T.f__has_twins T.fd__has_twins ["many"] (sp_has_twins K) := by
  refine T.F__has_twins.ok sc__has_twins (fun vs H Q E h => ?_) (fun cdv A outer s H vs Q E hr h => ?_)
  · obtain ⟨a, ns, rfl, _⟩ := h
    rfl
  obtain ⟨a, ns, rfl, ha, hz, q⟩ := h
  refine ⟨_, (pss_one (ps_ret (pe_cmpR op_lt (pe_lenSetG (by rfl) T.n_len (by rfl) T.n_set (pv 0)) (pe_callB call_len_seq (by rfl) T.n_len PySem.boot_len (pa_cons (pv 0) pa_nil)) (nomark _)))), ?_⟩
  refine ⟨_, rfl, a, ns, rfl, ha, by omega, _, rfl, a, _, rfl, .inl ha, _, _, rfl, rfl, ?_⟩
  show Q (.bl (decide ((((firstMet (fun i => ns.getD i 0) ns.length).length : Nat) : Int) < (((ns.map V.int).length : Nat) : Int)))) H
  rw [List.length_map]
  have e : decide ((((firstMet (fun i => ns.getD i 0) ns.length).length : Nat) : Int) < ((ns.length : Nat) : Int)) = decide (¬ ns.Nodup) := by
    rw [Bool.eq_iff_iff, decide_eq_true_iff, decide_eq_true_iff]
    exact twins_iff ns
  rw [e]
  exact q

end
end G1

set_option maxRecDepth 100000
set_option maxHeartbeats 4000000
namespace G1
open PySem PySem.Spec PyProof.Rows L2 Gm
section
variable {P : Program} {w : World} {K : PySem.W.Frag} {mg : Str → Option Value} {base : Heap}
theorem erl_take {L : List Pat} {i : Nat} {p : Pat} (h : L[i]? = some p) : erl (L.take (i + 1)) = erl (L.take i) ++ erl [p] := by
  obtain ⟨h1, h2⟩ := List.getElem?_eq_some_iff.mp h
  rw [← List.take_append_getElem h1, h2]
  unfold erl
  rw [List.filterMap_append]
def sp_has_empty (K : PySem.W.Frag) : Sp := fun vs H Q _ => ∃ (p : Pat) (a : Addr) (fs : List V), vs = [.ref a] ∧ SqL K H a fs ∧ PAts K H (subs p) fs ∧ siz p ≤ 1000 ∧
  ∀ (H' : Hp), Same H H' → Q (.bl ((erl (subs p)).any id)) H'
theorem ok__has_empty_round (T : Txt w K mg) : FnOk P w K mg base CX0 3 T.f__has_empty_round T.fd__has_empty_round ["found"] (sp_has_empty K) := by
  refine T.F__has_empty_round.ok sc__has_empty_round (fun vs H Q E h => ?_) (fun cdv A outer s H vs Q E hr h => ?_)
  · obtain ⟨p, a, fs, rfl, _⟩ := h
    rfl
  obtain ⟨p, a, fs, rfl, ha, hL, hz, q⟩ := h
  have ll : (subs p).length = fs.length := Paired.length hL
  have e := stk_subs p []
  rw [List.append_nil] at e
  refine ⟨_, (pss_cons (ps_set (i := 1) sc__has_empty_round.nd rfl (.inr rfl) (pe_call (ok__takings T) (hr.mono (by decide)) (by rfl) T.m__takings T.F__takings.kp T.b__takings .nil pass0 (pa_cons (pv 0) pa_nil)))
  (pss_one (ps_ret (pe_callB (cr_any rfl) (by rfl) T.n_any (by decide +kernel) (pa_cons (pe_lc (own := [("at", 2), ("part", 3)]) (g := gTup K 2 (gCons (gName 2) (gCons (gName 3) gNil))) (te := tOp (rIxL K) (tVar 1) (tOp (rI0 fun i j => .int (i + j)) (tVar 2) (tC (.int 1)))) (tt := tTest (tOp (rIn K false) (tOp (rIxT K) (tVar 3) (tC (.int 0))) (tTup (tCons (tC (.str "more")) (tCons (tC (.str "less")) tNil))))) rfl sc__has_empty_round.nd (pi_enum (by rfl) T.n_enumerate (pa_cons (pv 0) pa_nil)) (blkOk_by (own := [("at", 2), ("part", 3)]) (N := N__has_empty_round) (sc := defScope s__has_empty_round) (by decide +kernel)) (fun _ _ _ _ _ => by exact (pg_tup rfl (pgs_cons (pg_name (i := 2) sc__has_empty_round.nd rfl (.inl rfl)) (pgs_cons (pg_name (i := 3) sc__has_empty_round.nd rfl (.inl rfl)) pgs_nil)))) (fun _ _ _ _ _ => by exact (pts_one (pt_cmpR op_in_seq (pe_ix ix_tup (pv 3) pe_int (fun _ _ => rfl)) (pe_tup (pa_cons pe_str (pa_cons pe_str pa_nil))) (by rfl)))) (fun _ _ _ _ _ => by exact (pe_ix ix_list (pv 1) (pe_op op_add (pv 2) pe_int) (fun _ _ => rfl)))) pa_nil))))), ?_⟩
  refine ⟨_, rfl, subs p, a, fs, rfl, ha, hL, e.2.2 trivial, hz, fun lt H1 s1 _ ht => ?_⟩
  rw [e.2.1, show tk [] = [] from rfl, List.append_nil] at ht
  refine ⟨_, rfl, a, fs, rfl, s1.seq ha, fun D nD => ?_⟩
  refine lc_it (walk_enum (xs := fs)) (fun i H' => Same H1 H' ∧ H' D = some (.lst ((erl ((subs p).take i)).map V.bl))) ⟨same_new nD, by rw [List.take_zero]; exact upd_same⟩ (fun i H' _ hI => hI.1.seq (s1.seq ha)) ?_ ?_
  · rintro i v H2 H3 hi ⟨s2, hD⟩ ⟨t, _, y, rfl, nt, rfl, ey, hy⟩
    cases ey
    obtain ⟨p1, hp1, pv⟩ := Paired.at hL hy
    have s3 := s2.trans (same_new (o := .tup [.int ((i : Nat) : Int), y]) nt)
    obtain ⟨b, ws, rfl, hb, _⟩ := (pv.mono (TS.of (K := K) (s1.trans s3))).node
    have hD3 : upd H2 t (.tup [.int ((i : Nat) : Int), .ref b]) D = some (.lst ((erl ((subs p).take i)).map V.bl)) := same_new nt _ _ hD
    have el : (erl ((subs p).take i)).length ≤ 1000 := Nat.le_trans (List.length_filterMap_le _ _) (by rw [List.length_take]; have : (subs p).length ≤ 1000 := hz; omega)
    refine ⟨t, _, rfl, SqT.of upd_same, rfl, _, _, rfl, _, _, rfl, rfl, rfl, ?_⟩
    refine ⟨_, rfl, _, _, _, _, rfl, rfl, hb, at0 rfl, sz (by show 2 ≤ 10000; decide), fun t2 n2 => ⟨_, _, rfl, .inr (SqT.of upd_same), rfl, rfl, _, rfl, ?_⟩⟩
    have s4 := s3.trans (same_new (o := .tup [.str "more", .str "less"]) n2)
    have hD4 := same_new (o := .tup [.str "more", .str "less"]) n2 _ _ hD3
    have ht4 := s4 _ _ ht
    rw [erl_take hp1]
    have take : ∀ q, (p1 = .more q ∨ p1 = .less q) → (V.bl (nul q)) = V.bl (nul q) ∧ ((subs p).map nul |>.map V.bl)[i + 1]? = some (.bl (nul q)) := fun q hq => by
      refine ⟨rfl, ?_⟩
      have := next_part' (p := p) (q := q) (i := i) (by rcases hq with rfl | rfl; exact .inl hp1; exact .inr hp1)
      rw [List.getElem?_map, List.getElem?_map, this]
      rfl
    cases p1 with
    | more q1 =>
      refine iteT ?_
      refine ⟨_, rfl, _, rfl, _, _, rfl, rfl, lt, _, _, .bl (nul q1), rfl, rfl, SqL.of ht4, at_of (j := i + 1) (by show ((i : Nat) : Int) + 1 = _; omega) (take q1 (.inl rfl)).2, ?_⟩
      refine ⟨_, hD4, szl (by rw [List.length_map]; omega), Same.mut s4 nD, ?_⟩
      rw [upd_same, List.map_append]
      rfl
    | less q1 =>
      refine iteT ?_
      refine ⟨_, rfl, _, rfl, _, _, rfl, rfl, lt, _, _, .bl (nul q1), rfl, rfl, SqL.of ht4, at_of (j := i + 1) (by show ((i : Nat) : Int) + 1 = _; omega) (take q1 (.inr rfl)).2, ?_⟩
      refine ⟨_, hD4, szl (by rw [List.length_map]; omega), Same.mut s4 nD, ?_⟩
      rw [upd_same, List.map_append]
      rfl
    | _ =>
      refine iteF ⟨s4, ?_⟩
      rw [hD4]
      simp [erl]
  · rintro H2 ⟨s2, hD⟩
    rw [← ll, List.take_length] at hD
    exact ⟨D, _, rfl, SqL.of hD, q H2 (s1.trans s2)⟩

end
end G1

set_option maxRecDepth 100000
set_option maxHeartbeats 4000000
namespace G1
open PySem PySem.Spec PyProof.Rows L2 Gm
section
variable {P : Program} {w : World} {K : PySem.W.Frag} {mg : Str → Option Value} {base : Heap}
/-- what checked is to do with a thing -/
inductive Due where | none | bad | twice | empty
def DueIs (K : PySem.W.Frag) (H : Hp) (v : V) : Due → Prop
  | .none => ∃ p, PAt K H p v ∧ siz p ≤ 1000 ∧ goodP p
  | .bad => ∃ t, TAt K H t v ∧ thas t = true ∧ tsz t ≤ 1000
  | .twice => ∃ p, PAt K H p v ∧ siz p ≤ 1000 ∧ ¬ (nums (subs p)).Nodup
  | .empty => ∃ p, PAt K H p v ∧ siz p ≤ 1000 ∧ (nums (subs p)).Nodup ∧ (erl (subs p)).any id = true
theorem DueIs.mono {H H' : Hp} {v : V} {d : Due} (e : TL K H H') (h : DueIs K H v d) : DueIs K H' v d := by
  cases d with
  | none =>
    obtain ⟨p, hp, r⟩ := h
    exact ⟨p, hp.mono e.ts, r⟩
  | bad =>
    obtain ⟨p, hp, r⟩ := h
    exact ⟨p, hp.mono e, r⟩
  | twice =>
    obtain ⟨p, hp, r⟩ := h
    exact ⟨p, hp.mono e.ts, r⟩
  | empty =>
    obtain ⟨p, hp, r⟩ := h
    exact ⟨p, hp.mono e.ts, r⟩
def Txt.cls (T : Txt w K mg) : Due → Addr
  | .bad => T.c_BadPattern
  | .twice => T.c_TwiceNumbered
  | _ => T.c_EmptyRound
def sp_checked (T : Txt w K mg) : Sp := fun vs H Q E => ∃ (v : V) (d : Due), vs = [v] ∧ DueIs K H v d ∧ (d = .none → ∀ H', Same H H' → Q v H') ∧ (d ≠ .none → ∀ H', Same H H' → E (.ref (T.cls d)) none H')
theorem ok_checked (T : Txt w K mg) : FnOk P w K mg base (L2N.CX P w) 4 T.f_checked T.fd_checked ["pattern"] (sp_checked T) := by
  refine okN T.F_checked sc_checked (fun vs H Q E h => ?_) (fun cdv A outer s H vs Q E hr h => ?_)
  · obtain ⟨v, d, rfl, _⟩ := h
    rfl
  obtain ⟨v, d, rfl, hd, q, qe⟩ := h
  have key : (∃ t, TAt K H t v ∧ thas t = true ∧ tsz t ≤ 1000 ∧ ∀ H', Same H H' → E (.ref T.c_BadPattern) none H') ∨
      (∃ p, PAt K H p v ∧ siz p ≤ 1000 ∧ ((nums (subs p)).Nodup → (erl (subs p)).any id = false → ∀ H', Same H H' → Q v H') ∧ (¬ (nums (subs p)).Nodup → ∀ H', Same H H' → E (.ref T.c_TwiceNumbered) none H') ∧
      ((nums (subs p)).Nodup → (erl (subs p)).any id = true → ∀ H', Same H H' → E (.ref T.c_EmptyRound) none H')) := by
    cases d with
    | none =>
      obtain ⟨p, hp, hz, g1, g2⟩ := hd
      refine .inr ⟨p, hp, hz, fun _ _ => q rfl, fun n => absurd g1 n, fun _ e => ?_⟩
      rw [g2] at e
      cases e
    | bad =>
      obtain ⟨t, ht, hb, hz⟩ := hd
      exact .inl ⟨t, ht, hb, hz, qe (by intro e; cases e)⟩
    | twice =>
      obtain ⟨p, hp, hz, g1⟩ := hd
      exact .inr ⟨p, hp, hz, fun n => absurd n g1, fun _ => qe (by intro e; cases e), fun n => absurd n g1⟩
    | empty =>
      obtain ⟨p, hp, hz, g1, g2⟩ := hd
      refine .inr ⟨p, hp, hz, fun _ e => ?_, fun n => absurd g1 n, fun _ _ => qe (by intro e; cases e)⟩
      rw [g2] at e
      cases e
  refine ⟨_, (pss_cons (ps_set (i := 1) sc_checked.nd rfl (.inl rfl) (pe_call (ok_parts T) (hr.mono (by decide)) (by rfl) T.m_parts T.F_parts.kp T.b_parts .nil (L2N.passes_call (L2N.takes_of rfl rfl rfl rfl) fun _ _ _ _ h => h) (pa_cons (pv 0) pa_nil)))
  (pss_cons (ps_if (pt_val (pe_call (ok__has_twins T) (hr.mono (by decide)) (by rfl) T.m__has_twins T.F__has_twins.kp T.b__has_twins .nil pass0 (pa_cons (pe_call (ok__numbers_among T) (hr.mono (by decide)) (by rfl) T.m__numbers_among T.F__numbers_among.kp T.b__numbers_among .nil pass0 (pa_cons (pv 1) pa_nil)) pa_nil)))
    (pss_one (L2N.ps_raise rfl (L2N.takes_of rfl rfl rfl rfl) (L2N.pmk_own PySem.F.excBase_ValueError T.x_TwiceNumbered T.g_TwiceNumbered T.k_TwiceNumbered (raises_own T.b_TwiceNumbered T.t_TwiceNumbered) (by exact rfl))))
    pss_nil)
  (pss_cons (ps_if (pt_val (pe_call (ok__has_empty_round T) (hr.mono (by decide)) (by rfl) T.m__has_empty_round T.F__has_empty_round.kp T.b__has_empty_round .nil pass0 (pa_cons (pv 1) pa_nil)))
    (pss_one (L2N.ps_raise rfl (L2N.takes_of rfl rfl rfl rfl) (L2N.pmk_own PySem.F.excBase_ValueError T.x_EmptyRound T.g_EmptyRound T.k_EmptyRound (raises_own T.b_EmptyRound T.t_EmptyRound) (by exact rfl))))
    pss_nil)
  (pss_one (ps_ret (pv 0)))))), ?_⟩
  rcases key with ⟨t, ht, hb, hz, qe⟩ | ⟨p, hp, hz, qq⟩
  · exact ⟨_, rfl, v, rfl, .inr ⟨t, ht, hb, hz, qe⟩⟩
  refine ⟨_, rfl, v, rfl, .inl ⟨p, hp, hz, fun r fs H1 s1 _ h1 hf => ?_⟩⟩
  refine ⟨_, rfl, subs p, r, fs, rfl, SqL.of h1, hf, hz, fun r2 H2 s2 n2 h2 => ?_⟩
  refine ⟨r2, nums (subs p), rfl, SqL.of h2, Nat.le_trans (List.length_filterMap_le _ _) hz, ?_⟩
  by_cases g1 : (nums (subs p)).Nodup
  · have e : decide (¬ (nums (subs p)).Nodup) = false := decide_eq_false fun h => h g1
    rw [e]
    refine ⟨_, rfl, iteF ?_⟩
    refine ⟨_, rfl, p, r, fs, rfl, SqL.of (s2 _ _ h1), hf.mono (TS.of s2), hz, fun H3 s3 => ?_⟩
    cases g2 : (erl (subs p)).any id with
    | false =>
      refine ⟨_, rfl, iteF ?_⟩
      exact ⟨_, rfl, qq.1 g1 g2 H3 ((s1.trans s2).trans s3)⟩
    | true =>
      refine ⟨_, rfl, iteT ?_⟩
      exact qq.2.2 g1 g2 H3 ((s1.trans s2).trans s3)
  · have e : decide (¬ (nums (subs p)).Nodup) = true := decide_eq_true g1
    rw [e]
    refine ⟨_, rfl, iteT ?_⟩
    exact qq.2.1 g1 H2 (s1.trans s2)

end
end G1

set_option maxRecDepth 100000
set_option maxHeartbeats 4000000
namespace G1
open PySem PySem.Spec PyProof.Rows L2 Gm
section
variable {P : Program} {w : World} {K : PySem.W.Frag} {mg : Str → Option Value} {base : Heap}
def dn : Due → Str
  | .none => "none"
  | .bad => "bad"
  | .twice => "twice"
  | .empty => "empty"
def dv (v : V) : Due → V
  | .none => v
  | _ => .non
def sp_law_checked (K : PySem.W.Frag) : Sp := fun vs H Q _ => ∃ (v : V) (d : Due), vs = [v] ∧ DueIs K H v d ∧ ∀ (r : Addr) (H' : Hp), Same H H' → H' r = some (.tup [dv v d, .str (dn d)]) → Q (.ref r) H'
theorem ok__law_checked (T : Txt w K mg) : FnOk P w K mg base CX0 5 T.f__law_checked T.fd__law_checked ["_law_pattern"] (sp_law_checked K) := by
  refine T.F__law_checked.ok sc__law_checked (fun vs H Q E h => ?_) (fun cdv A outer s H vs Q E hr h => ?_)
  · obtain ⟨v, d, rfl, _⟩ := h
    rfl
  obtain ⟨v, d, rfl, hd, q⟩ := h
  have hr4 : Room 4 _ := hr.mono (by decide)
  refine ⟨_, pss_one (ps_try_many (Wout := fun _ _ _ _ => False) (tb := fun W => tRet (tTup (tCons (tCallS (sp_checked T) (WE W) (tCons (tVar 0) tNil)) (tCons (tC (.str "none")) tNil))))
    (l := [(.ref T.c_BadPattern, fun _ _ _ => tRet (tTup (tCons (tC .non) (tCons (tC (.str "bad")) tNil)))),
           (.ref T.c_TwiceNumbered, fun _ _ _ => tRet (tTup (tCons (tC .non) (tCons (tC (.str "twice")) tNil)))),
           (.ref T.c_EmptyRound, fun _ _ _ => tRet (tTup (tCons (tC .non) (tCons (tC (.str "empty")) tNil))))]) rfl rfl takes0
    (fun W pn xe tk _ => pss_one (ps_ret (pe_tup (pa_cons (pe_callS (fnX_of (ok_checked T)) hr4 (by rfl) T.m_checked T.F_checked.kp T.b_checked (fun σ => passAt tk σ) (by exact (pa_cons (pv 0) pa_nil))) (pa_cons pe_str pa_nil)))))
    (.cons ⟨rfl, by decide, Or.inl T.g_BadPattern⟩ (fun _ _ _ _ _ _ _ => pss_one (ps_ret (pe_tup (pa_cons pe_non (pa_cons pe_str pa_nil)))))
    (.cons ⟨rfl, by decide, Or.inl T.g_TwiceNumbered⟩ (fun _ _ _ _ _ _ _ => pss_one (ps_ret (pe_tup (pa_cons pe_non (pa_cons pe_str pa_nil)))))
    (.cons ⟨rfl, by decide, Or.inl T.g_EmptyRound⟩ (fun _ _ _ _ _ _ _ => pss_one (ps_ret (pe_tup (pa_cons pe_non (pa_cons pe_str pa_nil))))) .nil)))), ?_⟩
  refine ⟨_, rfl, v, d, rfl, hd, fun hn H' s1 => ?_, fun hn H' s1 => ?_⟩
  · subst hn
    refine ⟨sz (by show 2 ≤ 10000; decide), fun r nr => ?_⟩
    exact q r _ (s1.trans (same_new nr)) upd_same
  · cases d with
    | none => exact absurd rfl hn
    | bad =>
      refine ⟨_, T.e_BadPattern_BadPattern, fun _ a na => ?_, fun z => by cases z⟩
      refine ⟨sz (by show 2 ≤ 10000; decide), fun r nr => ?_⟩
      exact q r _ (s1.trans (same_new nr)) upd_same
    | twice =>
      refine ⟨_, T.e_TwiceNumbered_BadPattern, (fun z => by cases z), fun _ => ?_⟩
      refine ⟨_, T.e_TwiceNumbered_TwiceNumbered, fun _ a na => ?_, fun z => by cases z⟩
      refine ⟨sz (by show 2 ≤ 10000; decide), fun r nr => ?_⟩
      exact q r _ (s1.trans (same_new nr)) upd_same
    | empty =>
      refine ⟨_, T.e_EmptyRound_BadPattern, (fun z => by cases z), fun _ => ?_⟩
      refine ⟨_, T.e_EmptyRound_TwiceNumbered, (fun z => by cases z), fun _ => ?_⟩
      refine ⟨_, T.e_EmptyRound_EmptyRound, fun _ a na => ?_, fun z => by cases z⟩
      refine ⟨sz (by show 2 ≤ 10000; decide), fun r nr => ?_⟩
      exact q r _ (s1.trans (same_new nr)) upd_same

end
end G1

set_option maxRecDepth 100000
set_option maxHeartbeats 4000000
namespace G1
open PySem PySem.Spec PyProof.Rows L2 Gm
section
variable {P : Program} {w : World} {K : PySem.W.Frag} {mg : Str → Option Value} {base : Heap}
theorem Txt.ei (T : Txt w K mg) (d : Due) : ExcC K (T.cls d) := by
  cases d
  · exact T.ei_EmptyRound
  · exact T.ei_BadPattern
  · exact T.ei_TwiceNumbered
  · exact T.ei_EmptyRound
theorem Txt.eM (T : Txt w K mg) (d : Due) : PySem.W.exmOne K (.ref (T.cls d)) (.ref T.c_MarkError) = some true := by
  cases d
  · exact T.e_EmptyRound_MarkError
  · exact T.e_BadPattern_MarkError
  · exact T.e_TwiceNumbered_MarkError
  · exact T.e_EmptyRound_MarkError
theorem Txt.kiV (T : Txt w K mg) (d : Due) : PySem.W.kitOne K (.ref (T.cls d)) (.type "ValueError") = some true := by
  cases d
  · exact T.kv_EmptyRound
  · exact T.kv_BadPattern
  · exact T.kv_TwiceNumbered
  · exact T.kv_EmptyRound
theorem Txt.kiB (T : Txt w K mg) {d : Due} (h : d ≠ .none) : PySem.W.kitOne K (.ref (T.cls d)) (.ref T.c_BadPattern) = some (dn d == "bad") := by
  cases d
  · exact absurd rfl h
  · exact T.ki_BadPattern_BadPattern
  · exact T.ki_TwiceNumbered_BadPattern
  · exact T.ki_EmptyRound_BadPattern
theorem Txt.kiT (T : Txt w K mg) {d : Due} (h : d ≠ .none) : PySem.W.kitOne K (.ref (T.cls d)) (.ref T.c_TwiceNumbered) = some (dn d == "twice") := by
  cases d
  · exact absurd rfl h
  · exact T.ki_BadPattern_TwiceNumbered
  · exact T.ki_TwiceNumbered_TwiceNumbered
  · exact T.ki_EmptyRound_TwiceNumbered
theorem Txt.kiE (T : Txt w K mg) {d : Due} (h : d ≠ .none) : PySem.W.kitOne K (.ref (T.cls d)) (.ref T.c_EmptyRound) = some (dn d == "empty") := by
  cases d
  · exact absurd rfl h
  · exact T.ki_BadPattern_EmptyRound
  · exact T.ki_TwiceNumbered_EmptyRound
  · exact T.ki_EmptyRound_EmptyRound
theorem Txt.kiW (T : Txt w K mg) {d : Due} (h : d ≠ .none) : PySem.W.kitOne K (.ref (T.cls d)) (.ref T.c_BadWay) = some false := by
  cases d
  · exact absurd rfl h
  · exact T.ki_BadPattern_BadWay
  · exact T.ki_TwiceNumbered_BadWay
  · exact T.ki_EmptyRound_BadWay
def sp_law_refused (K : PySem.W.Frag) : Sp := fun vs H Q _ => ∃ (v : V) (d : Due), vs = [v, .str (dn d)] ∧ d ≠ .none ∧ DueIs K H v d ∧ ∀ H' : Hp, Q (.bl true) H'
def isI (K : PySem.W.Frag) (D a : Addr) (c : V) : TE := tCB (rIsE K D a) (tCons (tVar 2) (tCons (tC c) tNil))
def prI (K : PySem.W.Frag) (D a : Addr) (s : Str) (c : V) : TE := tTup (tCons (tC (.str s)) (tCons (isI K D a c) tNil))
theorem relV_ref {a : Addr} : ∀ u, RelV (.ref a) u → u = .ref a := fun u h => h
theorem relV_ty {t : String} : ∀ u, RelV (.ty t) u → u = .type t := fun u h => h
theorem ok__law_refused (T : Txt w K mg) : FnOk P w K mg base CX0 5 T.f__law_refused T.fd__law_refused ["_law_pattern", "_law_due"] (sp_law_refused K) := by
  refine T.F__law_refused.ok sc__law_refused (fun vs H Q E h => ?_) (fun cdv A outer s H vs Q E hr h => ?_)
  · obtain ⟨v, d, rfl, _⟩ := h
    rfl
  obtain ⟨v, d, rfl, hn, hd, q⟩ := h
  have hr4 : Room 4 _ := hr.mono (by decide)
  refine ⟨_, pss_cons (L2N.ps_try_as (i := 2) (Wout := fun _ _ _ _ => False) (c := .ref T.c_MarkError) (tb := fun W => tDrop (tCallS (sp_checked T) (WE W) (tCons (tVar 0) tNil)))
    (ts := fun a cls d => sAny _ _ a cls d) rfl rfl sc__law_refused.nd rfl rfl ⟨rfl, by decide, Or.inl T.g_MarkError⟩ takesN0
    (fun W pn xe tk _ => pss_one (ps_expr (pe_callS (ok_checked T) hr4 (by rfl) T.m_checked T.F_checked.kp T.b_checked (fun σ => L2N.passAt tk σ) (by exact (pa_cons (pv 0) pa_nil)))))
    (fun _ _ _ _ _ hz hf => pss_any hz hf)) (pss_one (ps_ret pe_bl)), ?_⟩
  refine ⟨_, rfl, v, d, rfl, hd, fun z => absurd z hn, fun _ H' s1 => ?_⟩
  refine ⟨_, T.eM d, fun _ a na => ?_, fun z => by cases z⟩
  refine ⟨tSeq (tAsg (tLst (tCons (prI K (T.cls d) a "bad" (.ref T.c_BadPattern)) (tCons (prI K (T.cls d) a "twice" (.ref T.c_TwiceNumbered)) tNil))) (gName 3))
    (tSeq (tAsg (tOp rCat (tVar 3) (tLst (tCons (prI K (T.cls d) a "empty" (.ref T.c_EmptyRound)) (tCons (prI K (T.cls d) a "way" (.ref T.c_BadWay)) tNil)))) (gName 3))
    (tRet (tAndV (isI K (T.cls d) a (.ty "ValueError")) (tOp (rEqD K) (tLc (iList K (tVar 3)) (gTup K 2 (gCons (gName 4) (gCons (gName 5) gNil))) (tB (tVar 5)) (tVar 4) [4, 5]) (tLst (tCons (tVar 1) tNil)))))), fun oe pn hz hf => ?h1, ?h2⟩
  case h1 =>
   have hu : (Around.mark (A.deeper (envOfC "_law_refused" (defScope s__law_refused) s.heap.objs.size T.f__law_refused cdv)) (some (.ref a))).units + 64 < cLine := hr.units
   have ci := call_isE (X := (cxOf CX0 P w K mg base N__law_refused "_law_refused" (defScope s__law_refused) T.f__law_refused cdv A outer s H E).nox) (a := a) (pn := pn) (T.ei d) hz.zc hf
   have hh := hot_suite (X := (cxOf CX0 P w K mg base N__law_refused "_law_refused" (defScope s__law_refused) T.f__law_refused cdv A outer s H E).nox) (a := a) (pn := pn) hz.2.2 hf
   exact pss_cons (ps_set (i := 3) sc__law_refused.nd rfl (.inl rfl) (pe_lst (pa_cons (pe_tup (pa_cons pe_str (pa_cons
      (pe_callB ci (by rfl) T.n_isinstance (by decide +kernel) (pa_cons (pv 2) (pa_cons (pe_glob (v := .ref T.c_BadPattern) (by rfl) T.g_BadPattern rfl) pa_nil))) pa_nil)))
    (pa_cons (pe_tup (pa_cons pe_str (pa_cons
      (pe_callB ci (by rfl) T.n_isinstance (by decide +kernel) (pa_cons (pv 2) (pa_cons (pe_glob (v := .ref T.c_TwiceNumbered) (by rfl) T.g_TwiceNumbered rfl) pa_nil))) pa_nil))) pa_nil))))
    (pss_cons (ps_set (i := 3) sc__law_refused.nd rfl (.inl rfl) (pe_op op_cat (pv 3) (pe_lst (pa_cons (pe_tup (pa_cons pe_str (pa_cons
      (pe_callB ci (by rfl) T.n_isinstance (by decide +kernel) (pa_cons (pv 2) (pa_cons (pe_glob (v := .ref T.c_EmptyRound) (by rfl) T.g_EmptyRound rfl) pa_nil))) pa_nil)))
    (pa_cons (pe_tup (pa_cons pe_str (pa_cons
      (pe_callB ci (by rfl) T.n_isinstance (by decide +kernel) (pa_cons (pv 2) (pa_cons (pe_glob (v := .ref T.c_BadWay) (by rfl) T.g_BadWay rfl) pa_nil))) pa_nil))) pa_nil)))))
    (pss_one (ps_ret (pe_and (pe_callB ci (by rfl) T.n_isinstance (by decide +kernel) (pa_cons (pv 2) (pa_cons (pe_bltn (v := .ty "ValueError") (by rfl) T.n_ValueError (by decide +kernel) rfl) pa_nil)))
      (pe_one (pe_cmpR (op_eqD hu) (pe_lcH (own := [("_law_word", 4), ("_law_holds", 5)]) (g := gTup K 2 (gCons (gName 4) (gCons (gName 5) gNil))) hh sc__law_refused.nd (pv 3)
          (blkOk_by (own := [("_law_word", 4), ("_law_holds", 5)]) (N := N__law_refused) (sc := defScope s__law_refused) (by decide +kernel))
          (fun _ _ _ _ _ hh => by exact (pg_tupH hh (pgs_cons (pg_name (i := 4) sc__law_refused.nd rfl (.inl rfl)) (pgs_cons (pg_name (i := 5) sc__law_refused.nd rfl (.inl rfl)) pgs_nil))))
          (fun _ _ _ _ _ => by exact (pts_one (pt_val (pv 5)))) (fun _ _ _ _ _ => by exact (pv 4))) (pe_lst (pa_cons (pv 1) pa_nil)) (nomark _)))))))
  have two : (2 : Nat) ≤ 10000 := by decide
  have one : (1 : Nat) ≤ 10000 := by decide
  refine ⟨_, rfl, _, _, _, rfl, relV_ref, T.kiB hn, sz two, fun p1 n1 => ?_⟩
  refine ⟨_, rfl, _, _, _, rfl, relV_ref, T.kiT hn, sz two, fun p2 n2 => ?_⟩
  refine ⟨sz two, fun l1 m1 => ?_⟩
  refine ⟨_, rfl, _, rfl, _, _, _, rfl, relV_ref, T.kiE hn, sz two, fun p3 n3 => ?_⟩
  refine ⟨_, rfl, _, _, _, rfl, relV_ref, T.kiW hn, sz two, fun p4 n4 => ?_⟩
  refine ⟨sz two, fun l2 m2 => ?_⟩
  have sa := same_new (o := .tup [.str "bad", .bl (dn d == "bad")]) n1
  have sb := same_new (o := .tup [.str "twice", .bl (dn d == "twice")]) n2
  have sc := same_new (o := .lst [.ref p1, .ref p2]) m1
  have sd := same_new (o := .tup [.str "empty", .bl (dn d == "empty")]) n3
  have se := same_new (o := .tup [.str "way", .bl false]) n4
  have sf := same_new (o := .lst [.ref p3, .ref p4]) m2
  refine ⟨l1, l2, _, _, rfl, rfl, sf _ _ (se _ _ (sd _ _ upd_same)), upd_same, sz (by show 4 ≤ 10000; decide), fun l3 m3 => ?_⟩
  have sg := same_new (o := .lst ([.ref p1, .ref p2] ++ [.ref p3, .ref p4])) m3
  refine ⟨_, rfl, _, _, _, rfl, relV_ty, T.kiV d, true, rfl, ?_⟩
  have hp : Paired (fun (k : Str × Bool) (x : V) => ∃ p, x = .ref p ∧ (upd (upd (upd (upd (upd (upd (upd H' p1 (.tup [.str "bad", .bl (dn d == "bad")])) p2 (.tup [.str "twice", .bl (dn d == "twice")])) l1 (.lst [.ref p1, .ref p2]))
      p3 (.tup [.str "empty", .bl (dn d == "empty")])) p4 (.tup [.str "way", .bl false])) l2 (.lst [.ref p3, .ref p4])) l3 (.lst ([.ref p1, .ref p2] ++ [.ref p3, .ref p4]))) p = some (.tup [.str k.1, .bl k.2]))
      [("bad", dn d == "bad"), ("twice", dn d == "twice"), ("empty", dn d == "empty"), ("way", false)] ([.ref p1, .ref p2] ++ [.ref p3, .ref p4]) :=
    .cons ⟨p1, rfl, sg _ _ (sf _ _ (se _ _ (sd _ _ (sc _ _ (sb _ _ upd_same)))))⟩ (.cons ⟨p2, rfl, sg _ _ (sf _ _ (se _ _ (sd _ _ (sc _ _ upd_same))))⟩ (.cons ⟨p3, rfl, sg _ _ (sf _ _ (se _ _ upd_same))⟩ (.cons ⟨p4, rfl, sg _ _ (sf _ _ upd_same)⟩ .nil)))
  have hl3 : upd (upd (upd (upd (upd (upd (upd H' p1 (.tup [.str "bad", .bl (dn d == "bad")])) p2 (.tup [.str "twice", .bl (dn d == "twice")])) l1 (.lst [.ref p1, .ref p2]))
      p3 (.tup [.str "empty", .bl (dn d == "empty")])) p4 (.tup [.str "way", .bl false])) l2 (.lst [.ref p3, .ref p4])) l3 (.lst ([.ref p1, .ref p2] ++ [.ref p3, .ref p4])) l3 = some (.lst ([.ref p1, .ref p2] ++ [.ref p3, .ref p4])) := upd_same
  generalize hHb : upd (upd (upd (upd (upd (upd (upd H' p1 (.tup [.str "bad", .bl (dn d == "bad")])) p2 (.tup [.str "twice", .bl (dn d == "twice")])) l1 (.lst [.ref p1, .ref p2]))
      p3 (.tup [.str "empty", .bl (dn d == "empty")])) p4 (.tup [.str "way", .bl false])) l2 (.lst [.ref p3, .ref p4])) l3 (.lst ([.ref p1, .ref p2] ++ [.ref p3, .ref p4])) = Hb at hp hl3 ⊢
  refine iteT ⟨_, rfl, l3, rfl, ⟨_, SqL.of hl3⟩, fun D nD => ?_⟩
  refine lc_list (K := K) (a := l3) (xs := [.ref p1, .ref p2] ++ [.ref p3, .ref p4]) (fun i H' => Same Hb H' ∧ H' D = some (.lst ((([("bad", dn d == "bad"), ("twice", dn d == "twice"), ("empty", dn d == "empty"), ("way", false)] : List (Str × Bool)).take i).filterMap fun k => if k.2 = true then some (V.str k.1) else none)))
    ⟨same_new nD, upd_same⟩ (fun i H' _ hI => SqL.of (hI.1 _ _ hl3)) ?_ ?_
  · rintro i x H2 hi ⟨s2, hD⟩
    obtain ⟨k, hk, p, rfl, ht⟩ := Paired.at hp hi
    refine ⟨p, _, rfl, SqT.of (s2 _ _ ht), rfl, _, _, rfl, _, _, rfl, rfl, rfl, _, rfl, k.2, rfl, ?_⟩
    obtain ⟨h1, h2⟩ := List.getElem?_eq_some_iff.mp hk
    have tk : ∀ L : List (Str × Bool), L[i]? = some k → (L.take (i + 1)).filterMap (fun k => if k.2 = true then some (V.str k.1) else none) = (L.take i).filterMap (fun k => if k.2 = true then some (V.str k.1) else none) ++ [k].filterMap (fun k => if k.2 = true then some (V.str k.1) else none) := by
      intro L hL
      obtain ⟨g1, g2⟩ := List.getElem?_eq_some_iff.mp hL
      rw [← List.take_append_getElem g1, g2, List.filterMap_append]
    rw [tk _ hk]
    cases hb : k.2 with
    | true =>
      refine iteT ⟨_, rfl, _, hD, szl ?_, Same.mut s2 nD, ?_⟩
      · refine Nat.le_trans (List.length_filterMap_le _ _) ?_
        refine Nat.le_trans (List.length_take_le _ _) ?_
        exact Nat.le_of_lt (Nat.lt_of_lt_of_le h1 (by show 4 ≤ 10000; decide))
      · rw [upd_same]
        simp [hb]
    | false =>
      refine iteF ⟨s2, ?_⟩
      rw [hD]
      simp [hb]
  · rintro H3 ⟨s3, hD⟩
    refine ⟨_, rfl, sz one, fun l4 m4 => ?_⟩
    have hr : ((([("bad", dn d == "bad"), ("twice", dn d == "twice"), ("empty", dn d == "empty"), ("way", false)] : List (Str × Bool)).take 4).filterMap fun k => if k.2 = true then some (V.str k.1) else none) = [V.str (dn d)] := by
      cases d
      · exact absurd rfl hn
      · rfl
      · rfl
      · rfl
    have hD' : H3 D = some (.lst [V.str (dn d)]) := by rw [← hr]; exact hD
    refine ⟨.list [.str (dn d)], .list [.str (dn d)], .lst (SqL.of (same_new m4 _ _ hD')) (.cons (.str _) .nil), .lst (SqL.of upd_same) (.cons (.str _) .nil), ?_, ?_, ?_⟩
    · cases d <;> decide +kernel
    · cases d <;> decide +kernel
    · have e : PyData.eqv (.list [.str (dn d)]) (.list [.str (dn d)]) = true := by cases d <;> decide +kernel
      rw [e]
      exact q _

end
end G1

set_option maxRecDepth 100000
set_option maxHeartbeats 4000000
namespace G1
open PySem PySem.Spec PyProof.Rows L2 Gm
section
variable {P : Program} {w : World} {K : PySem.W.Frag} {mg : Str → Option Value} {base : Heap}
def er1 (p : Pat) : Bool := (erl (subs p)).any id
theorem nums_app (A B : List Pat) : nums (A ++ B) = nums A ++ nums B := by
  unfold nums
  rw [List.filterMap_append]
theorem erl_app (A B : List Pat) : erl (A ++ B) = erl A ++ erl B := by
  unfold erl
  rw [List.filterMap_append]
theorem nums_row (p q : Pat) : nums (subs (.row p q)) = nums (subs p) ++ nums (subs q) := nums_app (subs p) (subs q)
theorem nums_or (p q : Pat) : nums (subs (.or p q)) = nums (subs p) ++ nums (subs q) := nums_app (subs p) (subs q)
theorem nums_more (p : Pat) : nums (subs (.more p)) = nums (subs p) := rfl
theorem nums_less (p : Pat) : nums (subs (.less p)) = nums (subs p) := rfl
theorem nums_group (n : Int) (p : Pat) : nums (subs (.group n p)) = n :: nums (subs p) := rfl
theorem er_row (p q : Pat) : er1 (.row p q) = (er1 p || er1 q) := by
  show (erl (subs p ++ subs q)).any id = _
  rw [erl_app, List.any_append]
  rfl
theorem er_or (p q : Pat) : er1 (.or p q) = (er1 p || er1 q) := er_row p q
theorem er_more (p : Pat) : er1 (.more p) = (nul p || er1 p) := rfl
theorem er_less (p : Pat) : er1 (.less p) = (nul p || er1 p) := rfl
theorem er_group (n : Int) (p : Pat) : er1 (.group n p) = er1 p := rfl
/-- two put together -/
theorem two_is {p p1 p2 : Pat} (h : p = .row p1 p2 ∨ p = .or p1 p2) : siz p = 1 + siz p1 + siz p2 ∧ dep p ≤ dep p1 + dep p2 ∧ nums (subs p) = nums (subs p1) ++ nums (subs p2) ∧ er1 p = (er1 p1 || er1 p2) := by
  have d1 := dep_pos p1
  have d2 := dep_pos p2
  rcases h with rfl | rfl
  · exact ⟨siz_row _ _, by simp only [dep]; omega, nums_row _ _, er_row _ _⟩
  · exact ⟨siz_or _ _, by simp only [dep]; omega, nums_or _ _, er_or _ _⟩
def gnum (ps : List Pat) : List Int := ps.flatMap fun p => nums (subs p)
theorem gnum_snoc (ps : List Pat) (p : Pat) : gnum (ps ++ [p]) = gnum ps ++ nums (subs p) := by
  unfold gnum
  simp
def dtot (ps : List Pat) : Nat := (ps.map dep).sum
theorem dtot_snoc (ps : List Pat) (p : Pat) : dtot (ps ++ [p]) = dtot ps + dep p := by
  unfold dtot
  simp
def sp_two (K : PySem.W.Frag) : Sp := fun vs H Q _ => ∃ (c : Int) (l r : V) (p1 p2 : Pat), vs = [.int c, l, r] ∧ Ent K H p1 l ∧ Ent K H p2 r ∧
  ∀ (t : Addr) (p : Pat) (H' : Hp), Same H H' → Ent K H' p (.ref t) → (p = .row p1 p2 ∨ p = .or p1 p2) → Q (.ref t) H'
theorem ok__law_two (T : Txt w K mg) : FnOk P w K mg base CX0 1 T.f__law_two T.fd__law_two ["_law_cell", "_law_left", "_law_right"] (sp_two K) := by
  refine T.F__law_two.ok sc__law_two (fun vs H Q E h => ?_) (fun cdv A outer s H vs Q E hr h => ?_)
  · obtain ⟨c, l, r, p1, p2, rfl, _⟩ := h
    rfl
  obtain ⟨c, l, r, p1, p2, rfl, ⟨a1, x1, rfl, h1, u1⟩, ⟨a2, x2, rfl, h2, u2⟩, q⟩ := h
  refine ⟨_, (pss_cons (ps_if (pt_cmpR op_eq (pe_op op_mod (pv 0) pe_int) pe_int (nomark _))
    (pss_one (ps_ret (pe_tup (pa_cons (pe_tup (pa_cons pe_str (pa_cons (pe_ix ix_tup (pv 1) pe_int (fun _ _ => rfl)) (pa_cons (pe_ix ix_tup (pv 2) pe_int (fun _ _ => rfl)) pa_nil)))) (pa_cons (pe_and (pe_ix ix_tup (pv 1) pe_int (fun _ _ => rfl)) (pe_one (pe_ix ix_tup (pv 2) pe_int (fun _ _ => rfl)))) pa_nil)))))
    pss_nil)
  (pss_one (ps_ret (pe_tup (pa_cons (pe_tup (pa_cons pe_str (pa_cons (pe_ix ix_tup (pv 1) pe_int (fun _ _ => rfl)) (pa_cons (pe_ix ix_tup (pv 2) pe_int (fun _ _ => rfl)) pa_nil)))) (pa_cons (pe_or (pe_ix ix_tup (pv 1) pe_int (fun _ _ => rfl)) (pe_one (pe_ix ix_tup (pv 2) pe_int (fun _ _ => rfl)))) pa_nil)))))), ?_⟩
  refine ⟨_, rfl, _, _, rfl, rfl, (by show (0 : Int) < 2; decide), rfl, _, rfl, ?_⟩
  refine ite2 (fun _ => ?_) (fun _ => ?_)
  · refine ⟨_, rfl, _, _, _, _, rfl, rfl, h1, at0 rfl, _, rfl, _, _, _, _, rfl, rfl, h2, at0 rfl, sz (by show 3 ≤ 10000; decide), fun t1 n1 => ?_⟩
    have s1 := same_new (o := .tup [.str "row", x1, x2]) n1
    have h1' := TS.of (K := K) s1 _ _ h1
    have h2' := TS.of (K := K) s1 _ _ h2
    have fin : ∀ {b : Bool}, nul p1 = true ∧ b = nul p2 ∨ nul p1 = false ∧ b = false → ([V.ref t1, V.bl b] : List V).length ≤ sizeLine ∧ ∀ t2, upd H t1 (.tup [.str "row", x1, x2]) t2 = none → Q (.ref t2) (upd (upd H t1 (.tup [.str "row", x1, x2])) t2 (.tup [.ref t1, .bl b])) := fun {b} hb => ⟨sz (by show 2 ≤ 10000; decide), fun t2 n2 =>
      q t2 (.row p1 p2) _ (s1.trans (same_new n2)) (Ent.mk n2 ⟨t1, x1, x2, rfl, SqT.of upd_same, u1.mono (TS.of s1), u2.mono (TS.of s1)⟩ (by rcases hb with ⟨e, f⟩ | ⟨e, f⟩ <;> simp [nul, e, f])) (.inl rfl)⟩
    refine ⟨_, rfl, _, _, _, _, rfl, rfl, h1', at1 rfl, _, rfl, ?_⟩
    refine ite2 (fun c1 => ?_) (fun c1 => ?_)
    · exact ⟨_, rfl, _, _, _, _, rfl, rfl, h2', at1 rfl, fin (.inl ⟨c1, rfl⟩)⟩
    · exact fin (.inr ⟨Bool.eq_false_iff.mpr c1, rfl⟩)
  · refine ⟨_, rfl, _, _, _, _, rfl, rfl, h1, at0 rfl, _, rfl, _, _, _, _, rfl, rfl, h2, at0 rfl, sz (by show 3 ≤ 10000; decide), fun t1 n1 => ?_⟩
    have s1 := same_new (o := .tup [.str "or", x1, x2]) n1
    have h1' := TS.of (K := K) s1 _ _ h1
    have h2' := TS.of (K := K) s1 _ _ h2
    have fin : ∀ {b : Bool}, nul p1 = false ∧ b = nul p2 ∨ nul p1 = true ∧ b = true → ([V.ref t1, V.bl b] : List V).length ≤ sizeLine ∧ ∀ t2, upd H t1 (.tup [.str "or", x1, x2]) t2 = none → Q (.ref t2) (upd (upd H t1 (.tup [.str "or", x1, x2])) t2 (.tup [.ref t1, .bl b])) := fun {b} hb => ⟨sz (by show 2 ≤ 10000; decide), fun t2 n2 =>
      q t2 (.or p1 p2) _ (s1.trans (same_new n2)) (Ent.mk n2 ⟨t1, x1, x2, rfl, SqT.of upd_same, u1.mono (TS.of s1), u2.mono (TS.of s1)⟩ (by rcases hb with ⟨e, f⟩ | ⟨e, f⟩ <;> simp [nul, e, f])) (.inr rfl)⟩
    refine ⟨_, rfl, _, _, _, _, rfl, rfl, h1', at1 rfl, _, rfl, ?_⟩
    refine ite2 (fun c1 => ?_) (fun c1 => ?_)
    · exact fin (.inr ⟨c1, rfl⟩)
    · exact ⟨_, rfl, _, _, _, _, rfl, rfl, h2', at1 rfl, fin (.inl ⟨Bool.eq_false_iff.mpr c1, rfl⟩)⟩

end
end G1

set_option maxRecDepth 100000
set_option maxHeartbeats 4000000
namespace G1
open PySem PySem.Spec PyProof.Rows L2 Gm
section
variable {P : Program} {w : World} {K : PySem.W.Frag} {mg : Str → Option Value} {base : Heap}
/-- what the law has made, its groups' numbers above lo -/
structure Made (lo : Int) (k : Nat) (p : Pat) : Prop where
  sz : siz p ≤ 1 + 5 * k
  dp : dep p ≤ 1 + 2 * k
  nd : (nums (subs p)).Nodup
  rg : ∀ n ∈ nums (subs p), lo < n ∧ n ≤ lo + (k : Int)
  er : er1 p = false
def sp_made (K : PySem.W.Frag) : Sp := fun vs H Q _ => ∃ (a : Addr) (ns : List Int) (g : Nat) (lo : Int), vs = [.ref a, .str ⟨#[g]⟩, .int lo] ∧ SqL K H a (ns.map V.int) ∧ ns.length ≤ 8 ∧ 0 ≤ lo ∧ g < 0x110000 ∧
  ∀ (v : V) (p : Pat) (H' : Hp), Same H H' → Ent K H' p v → Made lo ns.length p → Q v H'
def mInv (K : PySem.W.Frag) (H : Hp) (a lp : Addr) (g : Nat) (lo : Int) (i : Nat) (σ : L2.St) (H' : Hp) : Prop :=
  ∃ (num : Int) (ps : List Pat) (vs : List V) (x4 x5 x6 x7 x8 : Option V), σ = [some (.ref a), some (.str ⟨#[g]⟩), some (.int num), some (.ref lp), x4, x5, x6, x7, x8] ∧ Same H H' ∧
    H' lp = some (.lst vs) ∧ Paired (Ent K H') ps vs ∧ lo ≤ num ∧ num ≤ lo + (i : Int) ∧ tot ps + ps.length ≤ 5 * i ∧ dtot ps ≤ 2 * i ∧ (gnum ps).Nodup ∧ (∀ n ∈ gnum ps, lo < n ∧ n ≤ num) ∧ ∀ p ∈ ps, er1 p = false
theorem pile_push {H' H2 : Hp} {lp : Addr} {ps : List Pat} {vs : List V} {p : Pat} {v : V} (h : H2 lp = some (.lst vs)) (hp : Paired (Ent K H2) ps vs) (u : Ent K H2 p v) :
    Paired (Ent K (upd H2 lp (.lst (vs ++ [v])))) (ps ++ [p]) (vs ++ [v]) :=
  Paired.snoc (Paired.mapP hp fun _ _ z => z.mono (TS.lst h)) (u.mono (TS.lst h))
theorem er_snoc {ps : List Pat} {p : Pat} (h : ∀ q ∈ ps, er1 q = false) (e : er1 p = false) : ∀ q ∈ ps ++ [p], er1 q = false := by
  intro q hq
  rcases List.mem_append.mp hq with z | z
  · exact h q z
  · rw [List.mem_singleton.mp z]
    exact e
/-- a leaf is the none just where it may take nothing -/
theorem leaf_eq {p : Pat} (h : subs p = [p]) : PyData.eqv (pd p) (pd .none) = nul p := by
  cases p with
  | sign c => rfl
  | any => decide +kernel
  | none => decide +kernel
  | row p q => exact absurd (congrArg List.length h) (by simp [subs]; have := siz_pos p; unfold siz at this; intro z; rw [z] at this; exact absurd this (by simp))
  | or p q => exact absurd (congrArg List.length h) (by simp [subs]; have := siz_pos p; unfold siz at this; intro z; rw [z] at this; exact absurd this (by simp))
  | more p => exact absurd (congrArg List.length h) (by simp [subs]; have := siz_pos p; unfold siz at this; intro z; rw [z] at this; exact absurd this (by simp))
  | less p => exact absurd (congrArg List.length h) (by simp [subs]; have := siz_pos p; unfold siz at this; intro z; rw [z] at this; exact absurd this (by simp))
  | group n p => exact absurd (congrArg List.length h) (by simp [subs]; have := siz_pos p; unfold siz at this; intro z; rw [z] at this; exact absurd this (by simp))
theorem ok__law_made (T : Txt w K mg) : FnOk P w K mg base CX0 2 T.f__law_made T.fd__law_made ["_law_cells", "_law_sign_here", "_law_number"] (sp_made K) := by
  refine T.F__law_made.ok sc__law_made (fun vs H Q E h => ?_) (fun cdv A outer s H vs Q E hr h => ?_)
  · obtain ⟨a, ns, g, lo, rfl, _⟩ := h
    rfl
  obtain ⟨a, ns, g, lo, rfl, ha, h8, klo, hg, q⟩ := h
  refine ⟨_, (pss_cons (ps_set (i := 3) sc__law_made.nd rfl (.inl rfl) (pe_lst pa_nil))
  (pss_cons (ps_for PassesOwn.never rfl (pi_list (pv 0)) (pg_name (i := 4) sc__law_made.nd rfl (.inl rfl))
   (pss_cons (ps_set (i := 5) sc__law_made.nd rfl (.inl rfl) (pe_op op_mod (pv 4) pe_int))
  (pss_one (ps_if (PW.pt (pw_or (pt_cmpR op_lt (pv 5) pe_int (nomark _)) (pw_or (pt_cmpR op_eq (pe_callB call_len_seq (by rfl) T.n_len PySem.boot_len (pa_cons (pv 3) pa_nil)) pe_int (nomark _)) (pw_or1 (PW.pt (pw_and (pt_cmpR op_lt (pv 5) pe_int (nomark _)) (pw_and1 (pt_cmpR op_lt (pe_callB call_len_seq (by rfl) T.n_len PySem.boot_len (pa_cons (pv 3) pa_nil)) pe_int (nomark _)))))))))
    (pss_cons (ps_set (i := 6) sc__law_made.nd rfl (.inl rfl) (pe_ix ix_list (pe_lst (pa_cons (pe_tup (pa_cons pe_str pa_nil)) (pa_cons (pe_tup (pa_cons pe_str pa_nil)) (pa_cons (pe_tup (pa_cons pe_str (pa_cons (pv 1) pa_nil))) pa_nil)))) (pe_op op_mod (pe_op op_fdiv (pv 4) pe_int) pe_int) (fun _ _ => rfl)))
  (pss_one (ps_expr (pe_bm PySem.F.plainAttrs_list PySem.F.slot_list_append PySem.F.type_list_append mt_append (pv 3) (pa_cons (pe_tup (pa_cons (pv 6) (pa_cons (pe_cmpR (op_eqD hr.units) (pv 6) (pe_tup (pa_cons pe_str pa_nil)) (nomark _)) pa_nil))) pa_nil)))))
    (pss_one (ps_if (pt_cmpR op_lt (pv 5) pe_int (nomark _))
    (pss_cons (ps_set (i := 7) sc__law_made.nd rfl (.inl rfl) (pe_bm0 PySem.F.plainAttrs_list PySem.F.slot_list_pop PySem.F.type_list_pop mt_pop (pv 3)))
  (pss_one (ps_expr (pe_bm PySem.F.plainAttrs_list PySem.F.slot_list_append PySem.F.type_list_append mt_append (pv 3) (pa_cons (pe_call (ok__law_two T) (hr.mono (by decide)) (by rfl) T.m__law_two T.F__law_two.kp T.b__law_two .nil pass0 (pa_cons (pe_op op_fdiv (pv 4) pe_int) (pa_cons (pe_bm0 PySem.F.plainAttrs_list PySem.F.slot_list_pop PySem.F.type_list_pop mt_pop (pv 3)) (pa_cons (pv 7) pa_nil)))) pa_nil)))))
    (pss_one (ps_if (pt_cmpR op_lt (pv 5) pe_int (nomark _))
    (pss_cons (ps_set (i := 8) sc__law_made.nd rfl (.inl rfl) (pe_bm0 PySem.F.plainAttrs_list PySem.F.slot_list_pop PySem.F.type_list_pop mt_pop (pv 3)))
  (C8.pss_cut (ps_if (pt_val (pe_ix ix_tup (pv 8) pe_int (fun _ _ => rfl)))
    (pss_one (ps_set (i := 8) sc__law_made.nd rfl (.inl rfl) (pe_tup (pa_cons (pe_tup (pa_cons pe_str (pa_cons (pe_ix ix_tup (pv 8) pe_int (fun _ _ => rfl)) (pa_cons (pe_tup (pa_cons pe_str (pa_cons (pv 1) pa_nil))) pa_nil)))) (pa_cons pe_bl pa_nil)))))
    pss_nil)
  (pss_one (ps_expr (pe_bm PySem.F.plainAttrs_list PySem.F.slot_list_append PySem.F.type_list_append mt_append (pv 3) (pa_cons (pe_tup (pa_cons (pe_tup (pa_cons (pe_ix ix_list (pe_lst (pa_cons pe_str (pa_cons pe_str pa_nil))) (pe_op op_mod (pe_op op_fdiv (pv 4) pe_int) pe_int) (fun _ _ => rfl)) (pa_cons (pe_ix ix_tup (pv 8) pe_int (fun _ _ => rfl)) pa_nil))) (pa_cons pe_bl pa_nil))) pa_nil))))))
    (pss_cons (ps_set (i := 2) sc__law_made.nd rfl (.inl rfl) (pe_op op_add (pv 2) pe_int))
  (pss_cons (ps_set (i := 8) sc__law_made.nd rfl (.inl rfl) (pe_bm0 PySem.F.plainAttrs_list PySem.F.slot_list_pop PySem.F.type_list_pop mt_pop (pv 3)))
  (pss_one (ps_expr (pe_bm PySem.F.plainAttrs_list PySem.F.slot_list_append PySem.F.type_list_append mt_append (pv 3) (pa_cons (pe_tup (pa_cons (pe_tup (pa_cons pe_str (pa_cons (pv 2) (pa_cons (pe_ix ix_tup (pv 8) pe_int (fun _ _ => rfl)) pa_nil)))) (pa_cons (pe_ix ix_tup (pv 8) pe_int (fun _ _ => rfl)) pa_nil))) pa_nil))))))))))))))
  (pss_cons (ps_while PassesOwn.never (pt_cmpR op_gt (pe_callB call_len_seq (by rfl) T.n_len PySem.boot_len (pa_cons (pv 3) pa_nil)) pe_int (nomark _))
   (pss_cons (ps_set (i := 7) sc__law_made.nd rfl (.inl rfl) (pe_bm0 PySem.F.plainAttrs_list PySem.F.slot_list_pop PySem.F.type_list_pop mt_pop (pv 3)))
  (pss_one (ps_expr (pe_bm PySem.F.plainAttrs_list PySem.F.slot_list_append PySem.F.type_list_append mt_append (pv 3) (pa_cons (pe_call (ok__law_two T) (hr.mono (by decide)) (by rfl) T.m__law_two T.F__law_two.kp T.b__law_two .nil pass0 (pa_cons pe_int (pa_cons (pe_bm0 PySem.F.plainAttrs_list PySem.F.slot_list_pop PySem.F.type_list_pop mt_pop (pv 3)) (pa_cons (pv 7) pa_nil)))) pa_nil))))))
  (pss_cons (ps_if (pt_cmpR op_eq (pe_callB call_len_seq (by rfl) T.n_len PySem.boot_len (pa_cons (pv 3) pa_nil)) pe_int (nomark _))
    (pss_one (ps_ret (pe_tup (pa_cons (pe_tup (pa_cons pe_str pa_nil)) (pa_cons pe_bl pa_nil)))))
    pss_nil)
  (pss_one (ps_ret (pe_ix ix_list (pv 3) pe_int (fun _ _ => rfl)))))))), ?_⟩
  refine ⟨Nat.zero_le _, fun lp np => ?_⟩
  refine ⟨_, rfl, a, rfl, ⟨_, (same_new np).seq ha⟩, for_list (K := K) (a := a) (xs := ns.map V.int) (mInv K H a lp g lo)
    ⟨lo, [], [], none, none, none, none, none, rfl, same_new np, upd_same, .nil, Int.le_refl _, by simp, Nat.le_refl _, Nat.le_refl _, List.nodup_nil, (fun n hn => by cases hn), (fun p hp => by cases hp)⟩ (fun i σ H' _ hI => ?_) ?_ ?_⟩
  · obtain ⟨_, _, _, _, _, _, _, _, _, s1, _⟩ := hI
    exact s1.seq ha
  · rintro i y σ H1 hi ⟨num, ps, vs, x4, x5, x6, x7, x8, rfl, s1, hp, pv, kn, kn2, kt, kd, nd, rg, er⟩
    have hi8 : i < 8 := by
      have q1 := (List.getElem?_eq_some_iff.mp hi).1
      rw [List.length_map] at q1
      omega
    obtain ⟨c, rfl⟩ : ∃ c, y = V.int c := by
      rw [List.getElem?_map] at hi
      cases e : ns[i]? with
      | none =>
        rw [e] at hi
        cases hi
      | some u =>
        rw [e] at hi
        exact ⟨u, (Option.some.inj hi).symm⟩
    have lpv : ps.length = vs.length := Paired.length pv
    have rg1 : ∀ n ∈ gnum ps, lo < n ∧ n ≤ num + 1 := fun n hn => ⟨(rg n hn).1, by have := (rg n hn).2; omega⟩
    have kn3 : num ≤ lo + ((i + 1 : Nat) : Int) := by omega
    refine ⟨_, rfl, _, _, rfl, rfl, (by show (0 : Int) < 8; decide), ?_⟩
    refine g_nx ?_
    refine if_tst (b := decide (c % 8 < 3) || (decide (V.int ((vs.length : Nat) : Int) = V.int 0) || (decide (c % 8 < 5) && decide (((vs.length : Nat) : Int) < 2)))) (tst_or (fun Q q => ⟨_, rfl, _, _, rfl, rfl, _, rfl, q⟩) (tst_or (fun Q q => ⟨_, rfl, lp, _, rfl, .inl (SqL.of hp), rfl, _, rfl, q⟩)
      (tst_and (fun Q q => ⟨_, rfl, _, _, rfl, rfl, _, rfl, q⟩) (fun Q q => ⟨_, rfl, lp, _, rfl, .inl (SqL.of hp), _, _, rfl, rfl, _, rfl, q⟩)))) (fun c1 => ?_) (fun c1 => ?_)
    · -- a leaf
      refine ⟨sz (by show 1 ≤ 10000; decide), fun t1 n1 => ⟨sz (by show 1 ≤ 10000; decide), fun t2 n2 => ⟨_, rfl, sz (by show 2 ≤ 10000; decide), fun t3 n3 => ⟨sz (by show 3 ≤ 10000; decide), fun l nl => ?_⟩⟩⟩⟩
      refine ⟨_, rfl, _, _, rfl, rfl, ⟨by decide, by decide⟩, _, _, rfl, rfl, (by show (0 : Int) < 3; decide), ?_⟩
      have k0 := Int.emod_nonneg (c / 8) (show (3 : Int) ≠ 0 by decide)
      have k1 := Int.emod_lt_of_pos (c / 8) (show (0 : Int) < 3 by decide)
      have s4 := (((same_new (o := .tup [.str "none"]) n1).trans (same_new (o := .tup [.str "any"]) n2)).trans (same_new (o := .tup [.str "sign", .str ⟨#[g]⟩]) n3)).trans (same_new (o := .lst [.ref t1, .ref t2, .ref t3]) nl)
      have lf : ∃ (p : Pat) (x : V), atI [V.ref t1, .ref t2, .ref t3] (c / 8 % 3) = some x ∧ PAt K (upd (upd (upd (upd H1 t1 (.tup [.str "none"])) t2 (.tup [.str "any"])) t3 (.tup [.str "sign", .str ⟨#[g]⟩])) l (.lst [.ref t1, .ref t2, .ref t3])) p x ∧ subs p = [p] ∧ dep p = 1 ∧ nums (subs p) = [] ∧ er1 p = false := by
        by_cases e0 : c / 8 % 3 = 0
        · refine ⟨.none, .ref t1, by rw [e0]; exact at0 rfl, ⟨t1, rfl, TS.of (((same_new n2).trans (same_new n3)).trans (same_new nl)) _ _ (SqT.of upd_same)⟩, rfl, rfl, rfl, rfl⟩
        by_cases e1 : c / 8 % 3 = 1
        · refine ⟨.any, .ref t2, by rw [e1]; exact at1 rfl, ⟨t2, rfl, TS.of ((same_new n3).trans (same_new nl)) _ _ (SqT.of upd_same)⟩, rfl, rfl, rfl, rfl⟩
        · have e2 : c / 8 % 3 = 2 := by omega
          exact ⟨.sign g, .ref t3, by rw [e2]; exact at2 rfl, ⟨t3, rfl, hg, TS.of (same_new nl) _ _ (SqT.of upd_same)⟩, rfl, rfl, rfl, rfl⟩
      obtain ⟨p, x, ex, u, z1, d1, m1, e1⟩ := lf
      refine ⟨l, _, _, x, rfl, rfl, SqL.of upd_same, ex, ?_⟩
      have hp2 := s4 _ _ hp
      refine ⟨_, rfl, .inl ⟨rfl, _, SqL.of hp2⟩, _, rfl, _, rfl, sz (by show 1 ≤ 10000; decide), fun t5 n5 => ?_⟩
      have s5 := same_new (o := .tup [.str "none"]) n5
      have u5 := u.mono (TS.of (K := K) s5)
      have un : PAt K (upd (upd (upd (upd (upd H1 t1 (.tup [.str "none"])) t2 (.tup [.str "any"])) t3 (.tup [.str "sign", .str ⟨#[g]⟩])) l (.lst [.ref t1, .ref t2, .ref t3])) t5 (.tup [.str "none"])) .none (.ref t5) := ⟨t5, rfl, SqT.of upd_same⟩
      refine ⟨pd p, pd .none, u5.dp, un.dp, shaped_of u5.lay (Nat.le_trans (pd_depth _) (by rw [d1]; decide)), shaped_of un.lay (Nat.le_trans (pd_depth _) (by decide)), ?_⟩
      rw [leaf_eq z1]
      refine ⟨sz (by show 2 ≤ 10000; decide), fun t6 n6 => ?_⟩
      have s6 := (s4.trans s5).trans (same_new (o := .tup [x, .bl (nul p)]) n6)
      have hp6 := s6 _ _ hp
      have pv6 := Paired.mapP pv fun _ _ (z : Ent K H1 _ _) => z.mono (TS.of s6)
      have zs : siz p = 1 := by unfold siz; rw [z1]; rfl
      refine ⟨lp, vs, .ref t6, rfl, rfl, hp6, szl (by have := len_tot ps; omega), ?_⟩
      refine ⟨num, ps ++ [p], vs ++ [.ref t6], _, _, _, _, _, rfl, Same.mut (s1.trans s6) np, upd_same, pile_push (H' := H1) hp6 pv6 (Ent.mk n6 u5 rfl), kn, kn3, ?_, ?_, ?_, ?_, er_snoc er e1⟩
      · rw [tot_snoc, List.length_append, List.length_singleton, zs]
        omega
      · rw [dtot_snoc, d1]
        omega
      · rw [gnum_snoc, m1, List.append_nil]
        exact nd
      · rw [gnum_snoc, m1, List.append_nil]
        exact rg
    rw [Bool.or_eq_false_iff, Bool.or_eq_false_iff] at c1
    obtain ⟨ca, cb, cc⟩ := c1
    have n0 : vs.length ≠ 0 := fun z => of_decide_eq_false cb (by rw [z]; rfl)
    refine ⟨_, rfl, _, _, rfl, rfl, _, rfl, ?_⟩
    refine ite2 (fun c2 => ?_) (fun c2 => ?_)
    · -- two together
      have n2 : 2 ≤ vs.length := by
        rw [c2, Bool.true_and] at cc
        have := of_decide_eq_false cc
        omega
      obtain ⟨psA, pR, vsA, vR, rfl, rfl, pvA, uR⟩ := Paired.last pv (by omega)
      have lA : psA.length = vsA.length := Paired.length pvA
      rw [List.length_append, List.length_singleton] at n2
      obtain ⟨psB, pL, vsB, vL, rfl, rfl, pvB, uL⟩ := Paired.last pvA (by omega)
      refine ⟨_, rfl, .inl ⟨rfl, _, SqL.of hp⟩, lp, _, vR, rfl, rfl, hp, last_get _ _, ?_⟩
      rw [List.dropLast_concat]
      have hp1 : upd H1 lp (.lst (vsB ++ [vL])) lp = some (.lst (vsB ++ [vL])) := upd_same
      have t1 : TS K H1 (upd H1 lp (.lst (vsB ++ [vL]))) := TS.lst hp
      have t2 := t1.trans (TS.lst (K := K) (ys := vsB) hp1)
      refine ⟨_, rfl, .inl ⟨rfl, _, SqL.of hp1⟩, _, rfl, _, _, rfl, rfl, ⟨by decide, by decide⟩, _, rfl, .inl ⟨rfl, _, SqL.of hp1⟩, lp, _, vL, rfl, rfl, hp1, last_get _ _, ?_⟩
      rw [List.dropLast_concat]
      refine ⟨_, rfl, _, vL, vR, pL, pR, rfl, uL.mono t2, uR.mono t2, fun t p H2 s2 u z => ?_⟩
      obtain ⟨z1, z2, z3, z4⟩ := two_is z
      have hp2 := s2 _ _ (upd_same (H := upd H1 lp (.lst (vsB ++ [vL]))) (a := lp) (o := .lst vsB))
      have pv2 := Paired.mapP pvB fun _ _ (z : Ent K H1 _ _) => z.mono (t2.trans (TS.of s2))
      rw [tot_snoc, tot_snoc] at kt
      rw [dtot_snoc, dtot_snoc] at kd
      rw [gnum_snoc, gnum_snoc, List.append_assoc] at nd rg
      simp only [List.length_append, List.length_singleton] at kt lpv lA n2
      refine ⟨lp, vsB, .ref t, rfl, rfl, hp2, szl (by have := len_tot psB; omega), ?_⟩
      refine ⟨num, psB ++ [p], vsB ++ [.ref t], _, _, _, _, _, rfl, Same.mut ((Same.mut (Same.mut s1 np) np).trans s2) np, upd_same, pile_push (H' := H2) hp2 pv2 u, kn, kn3, ?_, ?_, ?_, ?_, er_snoc (fun q hq => er q (by simp [hq])) ?_⟩
      · rw [tot_snoc, List.length_append, List.length_singleton, z1]
        omega
      · rw [dtot_snoc]
        omega
      · rw [gnum_snoc, z3]
        exact nd
      · rw [gnum_snoc, z3]
        exact rg
      · rw [z4, er pL (by simp), er pR (by simp)]
        rfl
    refine ⟨_, rfl, _, _, rfl, rfl, _, rfl, ?_⟩
    obtain ⟨psA, pR, vsA, vR, rfl, rfl, pvA, uR⟩ := Paired.last pv (by omega)
    have t1 : TS K H1 (upd H1 lp (.lst vsA)) := TS.lst hp
    have hp1 : upd H1 lp (.lst vsA) lp = some (.lst vsA) := upd_same
    have erA : ∀ q ∈ psA, er1 q = false := fun q hq => er q (by simp [hq])
    have erR : er1 pR = false := er pR (by simp)
    rw [tot_snoc] at kt
    rw [dtot_snoc] at kd
    rw [gnum_snoc] at nd rg rg1
    simp only [List.length_append, List.length_singleton] at kt lpv
    refine ite2 (fun c3 => ?_) (fun c3 => ?_)
    · -- a round
      refine ⟨_, rfl, .inl ⟨rfl, _, SqL.of hp⟩, lp, _, vR, rfl, rfl, hp, last_get _ _, ?_⟩
      rw [List.dropLast_concat]
      obtain ⟨aR, xR, rfl, hR, uX⟩ := uR
      have hR1 := t1 _ _ hR
      have uX1 := uX.mono t1
      refine ⟨fun σ' H' => ∃ (p2 : Pat) (b : Addr) (x2 : V), σ' = [some (.ref a), some (.str ⟨#[g]⟩), some (.int num), some (.ref lp), some (.int c), some (.int (c % 8)), x6, x7, some (.ref b)] ∧ Same (upd H1 lp (.lst vsA)) H' ∧ SqT K H' b [x2, .bl false] ∧
        PAt K H' p2 x2 ∧ nul p2 = false ∧ siz p2 ≤ 2 + siz pR ∧ dep p2 ≤ 1 + dep pR ∧ nums (subs p2) = nums (subs pR) ∧ er1 p2 = false, ?_, ?_⟩
      · refine ⟨_, rfl, _, _, _, _, rfl, rfl, hR1, at1 rfl, _, rfl, ?_⟩
        refine ite2 (fun c4 => ?_) (fun c4 => ?_)
        · refine ⟨_, rfl, _, _, _, _, rfl, rfl, hR1, at0 rfl, _, rfl, sz (by show 2 ≤ 10000; decide), fun t2 n2 => ⟨sz (by show 3 ≤ 10000; decide), fun t3 n3 => ⟨sz (by show 2 ≤ 10000; decide), fun t4 n4 => ?_⟩⟩⟩
          have s2 := ((same_new (o := .tup [.str "sign", .str ⟨#[g]⟩]) n2).trans (same_new (o := .tup [.str "row", xR, .ref t2]) n3)).trans (same_new (o := .tup [.ref t3, .bl false]) n4)
          refine ⟨.row pR (.sign g), t4, .ref t3, rfl, s2, SqT.of upd_same, ⟨t3, xR, .ref t2, rfl, TS.of (same_new n4) _ _ (SqT.of upd_same), uX1.mono (TS.of s2), ⟨t2, rfl, hg, TS.of ((same_new n3).trans (same_new n4)) _ _ (SqT.of upd_same)⟩⟩, ?_, ?_, ?_, ?_, ?_⟩
          · show (nul pR && false) = false
            exact Bool.and_false _
          · rw [siz_row, show siz (.sign g) = 1 from rfl]
            omega
          · have := dep_pos pR
            show 1 + max (dep pR) 1 ≤ _
            omega
          · rw [nums_row]
            exact List.append_nil _
          · rw [er_row, erR]
            rfl
        · have e0 : nul pR = false := Bool.eq_false_iff.mpr c4
          rw [e0] at hR1
          exact ⟨pR, aR, xR, rfl, Same.refl _, hR1, uX1, e0, by omega, by omega, rfl, erR⟩
      · rintro σ' H2 ⟨p2, b, x2, rfl, s2, hb, u2, nu2, z2, d2, m2, e2⟩
        have hp2 := s2 _ _ hp1
        refine ⟨_, rfl, .inl ⟨rfl, _, SqL.of hp2⟩, sz (by show 2 ≤ 10000; decide), fun l5 n5 => ?_⟩
        have s5 := same_new (o := .lst [.str "more", .str "less"]) n5
        have hb5 := TS.of (K := K) s5 _ _ hb
        have k0 := Int.emod_nonneg (c / 8) (show (2 : Int) ≠ 0 by decide)
        have k1 := Int.emod_lt_of_pos (c / 8) (show (0 : Int) < 2 by decide)
        have w : ∃ (z : Str) (p3 : Pat), atI [V.str "more", V.str "less"] (c / 8 % 2) = some (.str z) ∧ (∀ {H3 : Hp} {t : Addr} {x : V}, SqT K H3 t [.str z, x] → PAt K H3 p2 x → PAt K H3 p3 (.ref t)) ∧ nul p3 = true ∧ siz p3 = 1 + siz p2 ∧ dep p3 = 1 + dep p2 ∧ nums (subs p3) = nums (subs p2) ∧ er1 p3 = false := by
          by_cases k : c / 8 % 2 = 0
          · exact ⟨"more", .more p2, by rw [k]; exact at0 rfl, fun h u => ⟨_, _, rfl, h, u⟩, rfl, siz_more _, rfl, rfl, by rw [er_more, nu2, e2]; rfl⟩
          · have k' : c / 8 % 2 = 1 := by omega
            exact ⟨"less", .less p2, by rw [k']; exact at1 rfl, fun h u => ⟨_, _, rfl, h, u⟩, rfl, siz_less _, rfl, rfl, by rw [er_less, nu2, e2]; rfl⟩
        obtain ⟨z, p3, ez, mk, nu3, z3, d3, m3, e3⟩ := w
        refine ⟨_, rfl, _, _, rfl, rfl, ⟨by decide, by decide⟩, _, _, rfl, rfl, (by show (0 : Int) < 2; decide), l5, _, _, .str z, rfl, rfl, SqL.of upd_same, ez, ?_⟩
        refine ⟨_, rfl, _, _, _, _, rfl, rfl, hb5, at0 rfl, sz (by show 2 ≤ 10000; decide), fun t6 n6 => ⟨sz (by show 2 ≤ 10000; decide), fun t7 n7 => ?_⟩⟩
        have s6 := s5.trans (same_new (o := .tup [.str z, x2]) n6)
        have s7 := s6.trans (same_new (o := .tup [.ref t6, .bl true]) n7)
        have u7 := Ent.mk n7 (mk (SqT.of (upd_same (H := upd H2 l5 (.lst [.str "more", .str "less"])) (a := t6))) (u2.mono (TS.of s6))) nu3
        have s27 := s2.trans s7
        have hp7 := s27 _ _ hp1
        have pv7 := Paired.mapP pvA fun _ _ (z : Ent K H1 _ _) => z.mono (t1.trans (TS.of s27))
        refine ⟨lp, vsA, .ref t7, rfl, rfl, hp7, szl (by have := len_tot psA; omega), ?_⟩
        refine ⟨num, psA ++ [p3], vsA ++ [.ref t7], _, _, _, _, _, rfl, Same.mut ((Same.mut s1 np).trans s27) np, upd_same, pile_push (H' := H1) hp7 pv7 u7, kn, kn3, ?_, ?_, ?_, ?_, er_snoc erA e3⟩
        · rw [tot_snoc, List.length_append, List.length_singleton]
          omega
        · rw [dtot_snoc]
          omega
        · rw [gnum_snoc, m3, m2]
          exact nd
        · rw [gnum_snoc, m3, m2]
          exact rg
    · -- a group
      refine ⟨_, rfl, _, _, rfl, rfl, ?_⟩
      refine ⟨_, rfl, .inl ⟨rfl, _, SqL.of hp⟩, lp, _, vR, rfl, rfl, hp, last_get _ _, ?_⟩
      rw [List.dropLast_concat]
      obtain ⟨aR, xR, rfl, hR, uX⟩ := uR
      have hR1 := t1 _ _ hR
      refine ⟨_, rfl, .inl ⟨rfl, _, SqL.of hp1⟩, _, rfl, _, rfl, _, _, _, _, rfl, rfl, hR1, at0 rfl, sz (by show 3 ≤ 10000; decide), fun t2 n2 => ?_⟩
      have s2 := same_new (o := .tup [.str "group", .int (num + 1), xR]) n2
      have hR2 := TS.of (K := K) s2 _ _ hR1
      refine ⟨_, rfl, _, _, _, _, rfl, rfl, hR2, at1 rfl, sz (by show 2 ≤ 10000; decide), fun t3 n3 => ?_⟩
      have s3 := s2.trans (same_new (o := .tup [.ref t2, .bl (nul pR)]) n3)
      have u : Ent K (upd (upd (upd H1 lp (.lst vsA)) t2 (.tup [.str "group", .int (num + 1), xR])) t3 (.tup [.ref t2, .bl (nul pR)])) (.group (num + 1) pR) (.ref t3) :=
        Ent.mk n3 ⟨t2, xR, rfl, by omega, SqT.of upd_same, uX.mono (t1.trans (TS.of s2))⟩ rfl
      have hp2 := s3 _ _ hp1
      have pv2 := Paired.mapP pvA fun _ _ (z : Ent K H1 _ _) => z.mono (t1.trans (TS.of s3))
      refine ⟨lp, vsA, .ref t3, rfl, rfl, hp2, szl (by have := len_tot psA; omega), ?_⟩
      refine ⟨num + 1, psA ++ [.group (num + 1) pR], vsA ++ [.ref t3], _, _, _, _, _, rfl, Same.mut ((Same.mut s1 np).trans s3) np, upd_same, pile_push (H' := H1) hp2 pv2 u, by omega, by omega, ?_, ?_, ?_, ?_, er_snoc erA (by rw [er_group]; exact erR)⟩
      · rw [tot_snoc, List.length_append, List.length_singleton, siz_group]
        omega
      · rw [dtot_snoc]
        show dtot psA + (1 + dep pR) ≤ _
        omega
      · rw [gnum_snoc, nums_group, List.perm_middle.nodup_iff, List.nodup_cons]
        refine ⟨fun hm => ?_, nd⟩
        have := (rg _ hm).2
        omega
      · rw [gnum_snoc, nums_group]
        intro n hn
        rw [List.mem_append, List.mem_cons] at hn
        rcases hn with z | z | z
        · exact rg1 n (List.mem_append_left _ z)
        · exact ⟨by omega, by omega⟩
        · exact rg1 n (List.mem_append_right _ z)
  -- what is left on the pile
  rintro σ H1 ⟨num, ps, vs, x4, x5, x6, x7, x8, rfl, s1, hp, pv, kn, kn2, kt, kd, nd, rg, er⟩
  rw [List.length_map] at kt kd kn2
  refine ⟨fun m σ' H' => ∃ (ps : List Pat) (vs : List V) (x7 : Option V), σ' = [some (.ref a), some (.str ⟨#[g]⟩), some (.int num), some (.ref lp), x4, x5, x6, x7, x8] ∧ Same H H' ∧
    H' lp = some (.lst vs) ∧ Paired (Ent K H') ps vs ∧ tot ps + ps.length ≤ 5 * ns.length ∧ dtot ps ≤ 2 * ns.length ∧ (gnum ps).Nodup ∧ (∀ n ∈ gnum ps, lo < n ∧ n ≤ num) ∧ (∀ p ∈ ps, er1 p = false) ∧ m = vs.length, ⟨_, ps, vs, x7, rfl, s1, hp, pv, kt, kd, nd, rg, er, rfl⟩, ?_⟩
  clear hp pv kt kd s1 nd rg er ps vs
  rintro m σ' H2 ⟨ps, vs, x7', rfl, s1, hp, pv, kt, kd, nd, rg, er, rfl⟩
  have lpv : ps.length = vs.length := Paired.length pv
  refine ⟨_, rfl, lp, _, rfl, .inl (SqL.of hp), _, _, rfl, rfl, _, rfl, ?_⟩
  refine ite2 (fun c1 => ?_) (fun c1 => ?_)
  · have n2 : 1 < vs.length := by
      have : (1 : Int) < ((vs.length : Nat) : Int) := of_decide_eq_true c1
      omega
    obtain ⟨psA, pR, vsA, vR, rfl, rfl, pvA, uR⟩ := Paired.last pv (by omega)
    have lA : psA.length = vsA.length := Paired.length pvA
    rw [List.length_append, List.length_singleton] at n2
    obtain ⟨psB, pL, vsB, vL, rfl, rfl, pvB, uL⟩ := Paired.last pvA (by omega)
    refine ⟨fun σ' H' => ∃ (ps : List Pat) (vs : List V) (x7 : Option V), σ' = [some (.ref a), some (.str ⟨#[g]⟩), some (.int num), some (.ref lp), x4, x5, x6, x7, x8] ∧ Same H H' ∧
      H' lp = some (.lst vs) ∧ Paired (Ent K H') ps vs ∧ tot ps + ps.length ≤ 5 * ns.length ∧ dtot ps ≤ 2 * ns.length ∧ (gnum ps).Nodup ∧ (∀ n ∈ gnum ps, lo < n ∧ n ≤ num) ∧ (∀ p ∈ ps, er1 p = false) ∧ vs.length = vsB.length + 1,
      fun σ' H' ⟨ps, vs, x7, e1, e2, e3, e4, e5, e6, e7, e8, e9, e10⟩ => ⟨vs.length, ?_, ps, vs, x7, e1, e2, e3, e4, e5, e6, e7, e8, e9, rfl⟩, ?_⟩
    · simp only [List.length_append, List.length_singleton]
      omega
    refine ⟨_, rfl, .inl ⟨rfl, _, SqL.of hp⟩, lp, _, vR, rfl, rfl, hp, last_get _ _, ?_⟩
    rw [List.dropLast_concat]
    have hp1 : upd H2 lp (.lst (vsB ++ [vL])) lp = some (.lst (vsB ++ [vL])) := upd_same
    have t1 : TS K H2 (upd H2 lp (.lst (vsB ++ [vL]))) := TS.lst hp
    have t2 := t1.trans (TS.lst (K := K) (ys := vsB) hp1)
    refine ⟨_, rfl, .inl ⟨rfl, _, SqL.of hp1⟩, _, rfl, .inl ⟨rfl, _, SqL.of hp1⟩, lp, _, vL, rfl, rfl, hp1, last_get _ _, ?_⟩
    rw [List.dropLast_concat]
    refine ⟨_, rfl, _, vL, vR, pL, pR, rfl, uL.mono t2, uR.mono t2, fun t p H3 s2 u z => ?_⟩
    obtain ⟨z1, z2, z3, z4⟩ := two_is z
    have hp2 := s2 _ _ (upd_same (H := upd H2 lp (.lst (vsB ++ [vL]))) (a := lp) (o := .lst vsB))
    have pv2 := Paired.mapP pvB fun _ _ (z : Ent K H2 _ _) => z.mono (t2.trans (TS.of s2))
    rw [tot_snoc, tot_snoc] at kt
    rw [dtot_snoc, dtot_snoc] at kd
    rw [gnum_snoc, gnum_snoc, List.append_assoc] at nd rg
    simp only [List.length_append, List.length_singleton] at kt lpv lA n2
    refine ⟨lp, vsB, .ref t, rfl, rfl, hp2, szl (by have := len_tot psB; omega), ?_⟩
    refine ⟨psB ++ [p], vsB ++ [.ref t], _, rfl, Same.mut ((Same.mut (Same.mut s1 np) np).trans s2) np, upd_same, pile_push (H' := H2) hp2 pv2 u, ?_, ?_, ?_, ?_, er_snoc (fun q hq => er q (by simp [hq])) ?_, by rw [List.length_append, List.length_singleton]⟩
    · rw [tot_snoc, List.length_append, List.length_singleton, z1]
      omega
    · rw [dtot_snoc]
      omega
    · rw [gnum_snoc, z3]
      exact nd
    · rw [gnum_snoc, z3]
      exact rg
    · rw [z4, er pL (by simp), er pR (by simp)]
      rfl
  refine ⟨_, rfl, lp, _, rfl, .inl (SqL.of hp), rfl, _, rfl, ?_⟩
  refine ite2 (fun c2 => ?_) (fun c2 => ?_)
  · refine ⟨sz (by show 1 ≤ 10000; decide), fun t1 n1 => ⟨sz (by show 2 ≤ 10000; decide), fun t2 n2 => ?_⟩⟩
    exact q (.ref t2) .none _ ((s1.trans (same_new n1)).trans (same_new n2)) (Ent.mk n2 ⟨t1, rfl, SqT.of upd_same⟩ rfl) ⟨Nat.le_add_right _ _, Nat.le_add_right _ _, List.nodup_nil, (fun n hn => by cases hn), rfl⟩
  · have n1 : vs.length = 1 := by
      have h1 : ¬ (1 : Int) < ((vs.length : Nat) : Int) := of_decide_eq_false (Bool.eq_false_iff.mpr c1)
      have h2 : vs.length ≠ 0 := fun z => c2 (by rw [z]; rfl)
      omega
    obtain ⟨ps', p, vs', v, rfl, rfl, pv', u⟩ := Paired.last pv (by omega)
    rw [List.length_append, List.length_singleton] at n1
    have e' : vs' = [] := List.length_eq_zero_iff.mp (by omega)
    subst e'
    rw [List.nil_append] at hp
    refine ⟨_, rfl, lp, _, _, v, rfl, rfl, SqL.of hp, at0 rfl, ?_⟩
    rw [tot_snoc] at kt
    rw [dtot_snoc] at kd
    rw [gnum_snoc] at nd rg
    refine q v p H2 s1 u ⟨by omega, by omega, (List.nodup_append.mp nd).2.1, fun n hn => ?_, er p (by simp)⟩
    have := rg n (List.mem_append_right _ hn)
    exact ⟨this.1, by omega⟩

end
end G1

set_option maxRecDepth 100000
set_option maxHeartbeats 4000000
namespace G1
open PySem PySem.Spec PyProof.Rows L2 Gm
section
variable {P : Program} {w : World} {K : PySem.W.Frag} {mg : Str → Option Value} {base : Heap}
theorem cmul9 (k : Int) (h : -(2 ^ 64) < k ∧ k < 2 ^ 64) : CMul k ((10 : Int) ^ (9 : Int).toNat) := .inl h
theorem pow9 : (10 : Int) ^ (9 : Int).toNat = 1000000000 := by decide +kernel
structure MadeE (p : Pat) : Prop where
  sz : siz p ≤ 60
  nd : (nums (subs p)).Nodup
  rg : ∀ n ∈ nums (subs p), 3000000000 < n ∧ n ≤ 4000000000
  er : er1 p = true
def sp_empty_law (K : PySem.W.Frag) : Sp := fun vs H Q _ => ∃ (a : Addr) (ns : List Int) (c : Int) (g : Nat), vs = [.ref a, .int c, .str ⟨#[g]⟩] ∧ SqL K H a (ns.map V.int) ∧ ns.length ≤ 8 ∧ g < 0x110000 ∧
  ∀ (v : V) (p : Pat) (H' : Hp), Same H H' → PAt K H' p v → MadeE p → Q v H'
theorem ok__law_empty (T : Txt w K mg) : FnOk P w K mg base CX0 3 T.f__law_empty T.fd__law_empty ["_law_cells", "_law_cell", "_law_sign_here"] (sp_empty_law K) := by
  refine T.F__law_empty.ok sc__law_empty (fun vs H Q E h => ?_) (fun cdv A outer s H vs Q E hr h => ?_)
  · obtain ⟨a, ns, c, g, rfl, _⟩ := h
    rfl
  obtain ⟨a, ns, c, g, rfl, ha, h8, hg, q⟩ := h
  refine ⟨_, (pss_cons (ps_set (i := 3) sc__law_empty.nd rfl (.inl rfl) (pe_call (ok__law_made T) (hr.mono (by decide)) (by rfl) T.m__law_made T.F__law_made.kp T.b__law_made .nil pass0 (pa_cons (pv 0) (pa_cons (pv 2) (pa_cons (pe_op op_mul pe_int (pe_op op_pow pe_int pe_int)) pa_nil)))))
  (pss_cons (ps_set (i := 4) sc__law_empty.nd rfl (.inl rfl) (pe_ix ix_tup (pv 3) pe_int (fun _ _ => rfl)))
  (C8.pss_cut (ps_if (pt_not (pt_val (pe_ix ix_tup (pv 3) pe_int (fun _ _ => rfl))))
    (pss_one (ps_set (i := 4) sc__law_empty.nd rfl (.inl rfl) (pe_ix ix_list (pe_lst (pa_cons (pe_tup (pa_cons pe_str (pa_cons (pv 4) (pa_cons (pe_tup (pa_cons pe_str pa_nil)) pa_nil)))) (pa_cons (pe_tup (pa_cons pe_str (pa_cons (pe_tup (pa_cons pe_str pa_nil)) (pa_cons (pv 4) pa_nil)))) (pa_cons (pe_tup (pa_cons pe_str (pa_cons (pv 4) pa_nil))) pa_nil)))) (pe_op op_mod (pe_op op_fdiv (pv 1) pe_int) pe_int) (fun _ _ => rfl))))
    pss_nil)
  (C8.pss_cut (ps_if (pt_cmpR op_eq (pe_op op_mod (pe_op op_fdiv (pv 1) pe_int) pe_int) pe_int (nomark _))
    (pss_one (ps_set (i := 4) sc__law_empty.nd rfl (.inl rfl) (pe_tup (pa_cons pe_str (pa_cons (pe_op op_mul pe_int (pe_op op_pow pe_int pe_int)) (pa_cons (pv 4) pa_nil))))))
    pss_nil)
  (pss_one (ps_ret (pe_tup (pa_cons (pe_ix ix_list (pe_lst (pa_cons pe_str (pa_cons pe_str pa_nil))) (pe_op op_mod (pv 1) pe_int) (fun _ _ => rfl)) (pa_cons (pv 4) pa_nil))))))))), ?_⟩
  refine ⟨_, rfl, _, rfl, _, _, rfl, rfl, ⟨by decide, by decide, by decide⟩, _, _, rfl, rfl, ?_⟩
  refine ⟨cmul9 3 (by decide), a, ns, g, _, rfl, ha, h8, by rw [pow9]; decide, hg, fun v p H1 s1 u m => ?_⟩
  rw [pow9] at m
  obtain ⟨t, x, rfl, ht, ux⟩ := u
  refine ⟨_, rfl, _, _, _, _, rfl, rfl, ht, at0 rfl, ?_⟩
  refine ⟨fun σ' H' => ∃ (q : Pat) (y : V), σ' = [some (.ref a), some (.int c), some (.str ⟨#[g]⟩), some (.ref t), some y] ∧ Same H H' ∧ PAt K H' q y ∧ nul q = true ∧ siz q ≤ 2 + siz p ∧ nums (subs q) = nums (subs p), ?_, ?_⟩
  · refine ⟨_, rfl, _, _, _, _, rfl, rfl, ht, at1 rfl, _, rfl, ?_⟩
    have e : ∀ b : Bool, (!b) = true ↔ ¬ b = true := by decide
    refine ite2 (fun c1 => ?_) (fun c1 => ?_)
    · refine ⟨_, rfl, sz (by show 1 ≤ 10000; decide), fun t1 n1 => ⟨sz (by show 3 ≤ 10000; decide), fun t2 n2 => ⟨sz (by show 1 ≤ 10000; decide), fun t3 n3 => ⟨_, rfl, sz (by show 3 ≤ 10000; decide), fun t4 n4 => ⟨_, rfl, sz (by show 2 ≤ 10000; decide), fun t5 n5 => ⟨sz (by show 3 ≤ 10000; decide), fun l nl => ?_⟩⟩⟩⟩⟩⟩
      have sa := same_new (o := .tup [.str "none"]) n1
      have sb := same_new (o := .tup [.str "or", x, .ref t1]) n2
      have sc := same_new (o := .tup [.str "none"]) n3
      have sd := same_new (o := .tup [.str "or", .ref t3, x]) n4
      have se := same_new (o := .tup [.str "less", x]) n5
      have sf := same_new (o := .lst [.ref t2, .ref t4, .ref t5]) nl
      have k0 := Int.emod_nonneg (c / 4) (show (3 : Int) ≠ 0 by decide)
      have k1 := Int.emod_lt_of_pos (c / 4) (show (0 : Int) < 3 by decide)
      have all := ((((sa.trans sb).trans sc).trans sd).trans se).trans sf
      have cde := ((sc.trans sd).trans se).trans sf
      have w : ∃ (q : Pat) (y : V), atI [V.ref t2, .ref t4, .ref t5] (c / 4 % 3) = some y ∧ PAt K (upd (upd (upd (upd (upd (upd H1 t1 (.tup [.str "none"])) t2 (.tup [.str "or", x, .ref t1])) t3 (.tup [.str "none"])) t4 (.tup [.str "or", .ref t3, x])) t5 (.tup [.str "less", x])) l (.lst [.ref t2, .ref t4, .ref t5])) q y ∧
          nul q = true ∧ siz q ≤ 2 + siz p ∧ nums (subs q) = nums (subs p) := by
        by_cases e0 : c / 4 % 3 = 0
        · refine ⟨.or p .none, .ref t2, by rw [e0]; exact at0 rfl, ⟨t2, x, .ref t1, rfl, TS.of cde _ _ (SqT.of upd_same), ux.mono (TS.of all), ⟨t1, rfl, TS.of (sb.trans cde) _ _ (SqT.of upd_same)⟩⟩, ?_, ?_, ?_⟩
          · show (nul p || true) = true
            exact Bool.or_true _
          · rw [siz_or, show siz .none = 1 from rfl]
            omega
          · rw [nums_or]
            exact List.append_nil _
        by_cases e1 : c / 4 % 3 = 1
        · refine ⟨.or .none p, .ref t4, by rw [e1]; exact at1 rfl, ⟨t4, .ref t3, x, rfl, TS.of (se.trans sf) _ _ (SqT.of upd_same), ⟨t3, rfl, TS.of ((sd.trans se).trans sf) _ _ (SqT.of upd_same)⟩, ux.mono (TS.of all)⟩, rfl, ?_, ?_⟩
          · rw [siz_or, show siz .none = 1 from rfl]
            omega
          · rw [nums_or]
            rfl
        · have e2 : c / 4 % 3 = 2 := by omega
          refine ⟨.less p, .ref t5, by rw [e2]; exact at2 rfl, ⟨t5, x, rfl, TS.of sf _ _ (SqT.of upd_same), ux.mono (TS.of all)⟩, rfl, ?_, rfl⟩
          rw [siz_less]
          omega
      obtain ⟨q, y, ey, uy, ny, zy, my⟩ := w
      refine ⟨_, rfl, _, _, rfl, rfl, ⟨by decide, by decide⟩, _, _, rfl, rfl, (by show (0 : Int) < 3; decide), l, _, _, y, rfl, rfl, SqL.of upd_same, ey, ?_⟩
      exact ⟨q, y, rfl, s1.trans all, uy, ny, zy, my⟩
    · have e0 : nul p = true := by
        cases h : nul p with
        | true => rfl
        | false => exact absurd (by rw [h]; rfl) c1
      exact ⟨p, x, rfl, s1, ux, e0, by omega, rfl⟩
  clear ux ht s1
  rintro σ1 H2 ⟨q1, y, rfl, s2, u2, nu2, z2, m2⟩
  have msz := m.sz
  have mrg : ∀ n ∈ nums (subs q1), 3000000000 < n ∧ n ≤ 3000000008 := fun n hn => by
    rw [m2] at hn
    have := m.rg n hn
    exact ⟨by omega, by omega⟩
  have mnd : (nums (subs q1)).Nodup := by
    rw [m2]
    exact m.nd
  refine ⟨fun σ' H' => ∃ (q : Pat) (y : V), σ' = [some (.ref a), some (.int c), some (.str ⟨#[g]⟩), some (.ref t), some y] ∧ Same H H' ∧ PAt K H' q y ∧ nul q = true ∧ siz q ≤ 3 + siz p ∧ (nums (subs q)).Nodup ∧ (∀ n ∈ nums (subs q), 3000000000 < n ∧ n ≤ 4000000000), ?_, ?_⟩
  · refine ⟨_, rfl, _, _, rfl, rfl, ⟨by decide, by decide⟩, _, _, rfl, rfl, (by show (0 : Int) < 2; decide), rfl, _, rfl, ?_⟩
    refine ite2 (fun c1 => ?_) (fun c1 => ?_)
    · refine ⟨_, _, rfl, rfl, ⟨by decide, by decide, by decide⟩, _, _, rfl, rfl, ?_⟩
      refine ⟨cmul9 4 (by decide), _, rfl, sz (by show 3 ≤ 10000; decide), fun t3 n3 => ?_⟩
      have s3 := same_new (o := .tup [.str "group", .int (4 * (10 : Int) ^ (9 : Int).toNat), y]) n3
      refine ⟨.group (4 * (10 : Int) ^ (9 : Int).toNat) q1, .ref t3, rfl, s2.trans s3, ⟨t3, y, rfl, by rw [pow9]; decide, SqT.of upd_same, u2.mono (TS.of s3)⟩, nu2, ?_, ?_, ?_⟩
      · rw [siz_group]
        omega
      · rw [nums_group, List.nodup_cons, pow9]
        refine ⟨fun hm => ?_, mnd⟩
        have := (mrg _ hm).2
        omega
      · rw [nums_group, pow9]
        intro n hn
        rcases List.mem_cons.mp hn with z | z
        · omega
        · have := mrg n z
          omega
    · exact ⟨q1, y, rfl, s2, u2, nu2, by omega, mnd, fun n hn => by have := mrg n hn; omega⟩
  clear u2 s2 nu2 z2 m2 mrg mnd
  rintro σ1 H2 ⟨q1, y, rfl, s2, u2, nu2, z2, mnd, mrg⟩
  refine ⟨sz (by show 2 ≤ 10000; decide), fun l nl => ?_⟩
  have s3 := same_new (o := .lst [.str "more", .str "less"]) nl
  have k0 := Int.emod_nonneg c (show (2 : Int) ≠ 0 by decide)
  have k1 := Int.emod_lt_of_pos c (show (0 : Int) < 2 by decide)
  have w : ∃ (z : Str) (p3 : Pat), atI [V.str "more", V.str "less"] (c % 2) = some (.str z) ∧ (∀ {H3 : Hp} {t : Addr} {x : V}, SqT K H3 t [.str z, x] → PAt K H3 q1 x → PAt K H3 p3 (.ref t)) ∧ siz p3 = 1 + siz q1 ∧ nums (subs p3) = nums (subs q1) ∧ er1 p3 = true := by
    by_cases k : c % 2 = 0
    · exact ⟨"more", .more q1, by rw [k]; exact at0 rfl, fun h u => ⟨_, _, rfl, h, u⟩, siz_more _, rfl, by rw [er_more, nu2]; rfl⟩
    · have k' : c % 2 = 1 := by omega
      exact ⟨"less", .less q1, by rw [k']; exact at1 rfl, fun h u => ⟨_, _, rfl, h, u⟩, siz_less _, rfl, by rw [er_less, nu2]; rfl⟩
  obtain ⟨z, p3, ez, mk, z3, m3, e3⟩ := w
  refine ⟨_, rfl, _, _, rfl, rfl, (by show (0 : Int) < 2; decide), l, _, _, .str z, rfl, rfl, SqL.of upd_same, ez, ?_⟩
  refine ⟨_, rfl, sz (by show 2 ≤ 10000; decide), fun t5 n5 => ?_⟩
  have s5 := s3.trans (same_new (o := .tup [.str z, y]) n5)
  refine q (.ref t5) p3 _ (s2.trans s5) (mk (SqT.of upd_same) (u2.mono (TS.of s5))) ⟨by omega, by rw [m3]; exact mnd, by rw [m3]; exact mrg, e3⟩

end
end G1

set_option maxRecDepth 100000
set_option maxHeartbeats 4000000
namespace G1
open PySem PySem.Spec PyProof.Rows L2 Gm
section
variable {P : Program} {w : World} {K : PySem.W.Frag} {mg : Str → Option Value} {base : Heap}
theorem cut_tail1 (v : V) (vs : List V) : cutV (v :: vs) (some 1) none = vs := by
  unfold cutV
  rw [show HT.sIx (v :: vs).length 0 (some 1) = min 1 (v :: vs).length from HT.sIx_nat _ 0 1, HT.sIx_none, List.length_cons]
  rw [show min 1 (vs.length + 1) = 1 by omega]
  show List.take (vs.length + 1 - 1) vs = vs
  rw [Nat.add_sub_cancel]
  exact List.take_length
def tnums : PT → List Int
  | .ok p => nums (subs p)
  | .bad => []
  | .row p q => tnums p ++ tnums q
  | .or p q => tnums p ++ tnums q
  | .more p => tnums p
  | .less p => tnums p
  | .group n p => n :: tnums p
def tnul : PT → Bool
  | .ok p => nul p
  | .bad => false
  | .row p q => tnul p && tnul q
  | .or p q => tnul p || tnul q
  | .more _ => true
  | .less _ => true
  | .group _ p => tnul p
def ter : PT → Bool
  | .ok p => er1 p
  | .bad => false
  | .row p q => ter p || ter q
  | .or p q => ter p || ter q
  | .more p => tnul p || ter p
  | .less p => tnul p || ter p
  | .group _ p => ter p
/-- where nothing in it is bad, it is a pattern -/
theorem TAt_pat {H : Hp} {t : PT} {v : V} (h : TAt K H t v) (b : thas t = false) : ∃ p, PAt K H p v ∧ siz p = tsz t ∧ nums (subs p) = tnums t ∧ er1 p = ter t ∧ nul p = tnul t := by
  induction h with
  | ok h => exact ⟨_, h, rfl, rfl, rfl, rfl⟩
  | bad h => cases b
  | row h _ _ i j =>
    obtain ⟨b1, b2⟩ := (Bool.or_eq_false_iff).mp b
    obtain ⟨p, u, z, m, e, n⟩ := i b1
    obtain ⟨p', u', z', m', e', n'⟩ := j b2
    refine ⟨.row p p', ⟨_, _, _, rfl, h, u, u'⟩, ?_, ?_, ?_, ?_⟩
    · rw [siz_row, z, z']; show 1 + tsz _ + tsz _ = 1 + (tsz _ + tsz _); omega
    · rw [nums_row, m, m']; rfl
    · rw [er_row, e, e']; rfl
    · show (nul p && nul p') = _; rw [n, n']; rfl
  | or h _ _ i j =>
    obtain ⟨b1, b2⟩ := (Bool.or_eq_false_iff).mp b
    obtain ⟨p, u, z, m, e, n⟩ := i b1
    obtain ⟨p', u', z', m', e', n'⟩ := j b2
    refine ⟨.or p p', ⟨_, _, _, rfl, h, u, u'⟩, ?_, ?_, ?_, ?_⟩
    · rw [siz_or, z, z']; show 1 + tsz _ + tsz _ = 1 + (tsz _ + tsz _); omega
    · rw [nums_or, m, m']; rfl
    · rw [er_or, e, e']; rfl
    · show (nul p || nul p') = _; rw [n, n']; rfl
  | more h _ i =>
    obtain ⟨p, u, z, m, e, n⟩ := i b
    refine ⟨.more p, ⟨_, _, rfl, h, u⟩, ?_, ?_, ?_, rfl⟩
    · rw [siz_more, z]; rfl
    · rw [nums_more, m]; rfl
    · rw [er_more, n, e]; rfl
  | less h _ i =>
    obtain ⟨p, u, z, m, e, n⟩ := i b
    refine ⟨.less p, ⟨_, _, rfl, h, u⟩, ?_, ?_, ?_, rfl⟩
    · rw [siz_less, z]; rfl
    · rw [nums_less, m]; rfl
    · rw [er_less, n, e]; rfl
  | group h hn _ i =>
    obtain ⟨p, u, z, m, e, n⟩ := i b
    refine ⟨.group _ p, ⟨_, _, rfl, hn, h, u⟩, ?_, ?_, ?_, n⟩
    · rw [siz_group, z]; rfl
    · rw [nums_group, m]; rfl
    · rw [er_group, e]; rfl
/-- r is t and u put together, n the number of a group round them -/
structure Step (t u : PT) (n : Int) (r : PT) : Prop where
  sz : tsz r ≤ tsz t + tsz u + 5
  has : thas r = (thas t || thas u)
  nm : ∃ G : List Int, (G = [] ∨ G = [n]) ∧ (tnums r).Perm (G ++ (tnums t ++ tnums u))
  er : ter r = (ter t || ter u)
/-- the things put together, up to a place -/
structure JRes (ts : List PT) (k : Nat) (t : PT) : Prop where
  sz : tsz t ≤ tszs ts + 5 * k
  has : thas t = ts.any thas
  nm : ∃ G : List Int, G.Nodup ∧ (∀ g ∈ G, 1000000001 < g ∧ g ≤ 1000000001 + (k : Int)) ∧ (tnums t).Perm (G ++ ts.flatMap tnums)
  er : ter t = ts.any ter
theorem JRes.step {ts : List PT} {k : Nat} {t u r : PT} (j : JRes ts k t) (s : Step t u (1000000001 + ((k + 1 : Nat) : Int)) r) : JRes (ts ++ [u]) (k + 1) r := by
  obtain ⟨G, g1, g2, g3⟩ := j.nm
  obtain ⟨G', e, p⟩ := s.nm
  refine ⟨?_, ?_, ⟨G' ++ G, ?_, ?_, ?_⟩, ?_⟩
  · have h1 := j.sz
    have h2 := s.sz
    have h3 : tszs (ts ++ [u]) = tszs ts + tsz u := by
      unfold tszs
      simp
    rw [h3]
    omega
  · rw [s.has, j.has, List.any_append]
    simp
  · rcases e with rfl | rfl
    · exact g1
    · show ((_ : Int) :: G).Nodup
      rw [List.nodup_cons]
      refine ⟨fun hm => ?_, g1⟩
      have := (g2 _ hm).2
      omega
  · intro g hg
    rcases List.mem_append.mp hg with z | z
    · rcases e with rfl | rfl
      · cases z
      · rw [List.mem_singleton.mp z]
        omega
    · have := g2 g z
      omega
  · rw [List.append_assoc]
    refine p.trans (List.Perm.append_left _ ?_)
    rw [List.flatMap_append]
    refine ((g3.append_right _)).trans ?_
    rw [List.append_assoc]
    simp
  · rw [s.er, j.er, List.any_append]
    simp
def sp_joined (K : PySem.W.Frag) : Sp := fun vs H Q _ => ∃ (a : Addr) (ts : List PT) (ws : List V) (c : Int), vs = [.ref a, .int c] ∧ SqL K H a ws ∧ Paired (TAt K H) ts ws ∧ 1 ≤ ts.length ∧ ts.length ≤ 6 ∧
  ∀ (v : V) (t : PT) (H' : Hp), Same H H' → TAt K H' t v → JRes ts (ts.length - 1) t → Q v H'
theorem ok__law_joined (T : Txt w K mg) : FnOk P w K mg base CX0 1 T.f__law_joined T.fd__law_joined ["_law_things", "_law_cell"] (sp_joined K) := by
  refine T.F__law_joined.ok sc__law_joined (fun vs H Q E h => ?_) (fun cdv A outer s H vs Q E hr h => ?_)
  · obtain ⟨a, ts, ws, c, rfl, _⟩ := h
    rfl
  obtain ⟨a, ts, ws, c, rfl, ha, hp, h1, h6, q⟩ := h
  refine ⟨_, (pss_cons (ps_set (i := 2) sc__law_joined.nd rfl (.inl rfl) (pe_ix ix_list (pv 0) pe_int (fun _ _ => rfl)))
  (pss_cons (ps_set (i := 3) sc__law_joined.nd rfl (.inl rfl) (pe_op op_add (pe_op op_pow pe_int pe_int) pe_int))
  (pss_cons (ps_for PassesOwn.never rfl (pi_list (pe_slice sl_list (pv 0) (po_some pe_int) po_none)) (pg_name (i := 4) sc__law_joined.nd rfl (.inl rfl))
   (pss_cons (ps_set (i := 3) sc__law_joined.nd rfl (.inl rfl) (pe_op op_add (pv 3) pe_int))
  (pss_cons (ps_set (i := 5) sc__law_joined.nd rfl (.inl rfl) (pe_ix ix_list (pe_lst (pa_cons (pe_tup (pa_cons (pv 2) (pa_cons (pv 4) pa_nil))) (pa_cons (pe_tup (pa_cons (pv 4) (pa_cons (pv 2) pa_nil))) pa_nil))) (pe_op op_mod (pv 1) pe_int) (fun _ _ => rfl)))
  (pss_cons (ps_set (i := 2) sc__law_joined.nd rfl (.inl rfl) (pe_ix ix_list (pe_lst (pa_cons (pe_tup (pa_cons pe_str (pa_cons (pe_ix ix_tup (pv 5) pe_int (fun _ _ => rfl)) (pa_cons (pe_ix ix_tup (pv 5) pe_int (fun _ _ => rfl)) pa_nil)))) (pa_cons (pe_tup (pa_cons pe_str (pa_cons (pe_ix ix_tup (pv 5) pe_int (fun _ _ => rfl)) (pa_cons (pe_ix ix_tup (pv 5) pe_int (fun _ _ => rfl)) pa_nil)))) pa_nil))) (pe_op op_mod (pe_op op_fdiv (pv 1) pe_int) pe_int) (fun _ _ => rfl)))
  (C8.pss_cut (ps_if (pt_cmpR op_eq (pe_op op_mod (pe_op op_fdiv (pv 1) pe_int) pe_int) pe_int (nomark _))
    (pss_one (ps_set (i := 2) sc__law_joined.nd rfl (.inl rfl) (pe_tup (pa_cons pe_str (pa_cons (pv 3) (pa_cons (pv 2) pa_nil))))))
    pss_nil)
  (C8.pss_cut (ps_if (pt_cmpR op_eq (pe_op op_mod (pe_op op_fdiv (pv 1) pe_int) pe_int) pe_int (nomark _))
    (pss_one (ps_set (i := 2) sc__law_joined.nd rfl (.inl rfl) (pe_tup (pa_cons (pe_ix ix_list (pe_lst (pa_cons pe_str (pa_cons pe_str pa_nil))) (pe_op op_mod (pe_op op_fdiv (pv 1) pe_int) pe_int) (fun _ _ => rfl)) (pa_cons (pe_tup (pa_cons pe_str (pa_cons (pe_tup (pa_cons pe_str pa_nil)) (pa_cons (pv 2) pa_nil)))) pa_nil)))))
    pss_nil)
  (pss_one (ps_set (i := 1) sc__law_joined.nd rfl (.inl rfl) (pe_op op_fdiv (pv 1) pe_int)))))))))
  (pss_one (ps_ret (pv 2)))))), ?_⟩
  cases hp with
  | nil => exact absurd h1 (by decide)
  | @cons t0 v0 ts ws u0 hp =>
  have lt : ts.length = ws.length := Paired.length hp
  refine ⟨_, rfl, a, _, _, v0, rfl, rfl, ha, at0 rfl, ?_⟩
  refine ⟨_, _, rfl, rfl, ⟨by decide, by decide, by decide⟩, _, _, rfl, rfl, ?_⟩
  refine ⟨_, rfl, _, rfl, a, _, rfl, ha, fun l nl => ?_⟩
  rw [cut_tail1]
  refine ⟨l, rfl, ⟨_, SqL.of upd_same⟩, for_list (K := K) (a := l) (xs := ws) (fun i σ H' => ∃ (c n : Int) (v : V) (t : PT) (x4 x5 : Option V), σ = [some (.ref a), some (.int c), some v, some (.int n), x4, x5] ∧ Same H H' ∧ H' l = some (.lst ws) ∧ TAt K H' t v ∧
    JRes ((t0 :: ts).take (i + 1)) i t ∧ n = 1000000001 + (i : Int))
    ⟨c, _, v0, t0, none, none, rfl, same_new nl, upd_same, u0.mono (TL.new nl), ⟨by simp [tszs], by simp, ⟨[], List.nodup_nil, (fun g hg => by cases hg), by simp⟩, by simp⟩, ?_⟩ (fun i σ H' _ hI => ?_) ?_ ?_⟩
  · rw [pow9]
    decide
  · obtain ⟨_, _, _, _, _, _, _, _, hl, _⟩ := hI
    exact SqL.of hl
  · rintro i y σ H1 hi ⟨c, n, v, t, x4, x5, rfl, s1, hl, ut, jr, hn⟩
    obtain ⟨u, hu, uu0⟩ := Paired.at hp hi
    have uu := uu0.mono (TL.of s1)
    have i5 : i < 5 := by
      have q1 := (List.getElem?_eq_some_iff.mp hi).1
      have : ts.length + 1 ≤ 6 := h6
      omega
    have n1 : n + 1 = 1000000001 + ((i + 1 : Nat) : Int) := by rw [hn]; push_cast; omega
    refine ⟨_, rfl, _, _, rfl, rfl, ?_⟩
    refine ⟨_, rfl, _, rfl, sz (by show 2 ≤ 10000; decide), fun p1 m1 => ⟨_, rfl, _, rfl, sz (by show 2 ≤ 10000; decide), fun p2 m2 => ⟨sz (by show 2 ≤ 10000; decide), fun l1 m3 => ?_⟩⟩⟩
    have sa := ((same_new (o := .tup [v, y]) m1).trans (same_new (o := .tup [y, v]) m2)).trans (same_new (o := .lst [.ref p1, .ref p2]) m3)
    have k0 := Int.emod_nonneg c (show (2 : Int) ≠ 0 by decide)
    have k1 := Int.emod_lt_of_pos c (show (0 : Int) < 2 by decide)
    have w : ∃ (pp : Addr) (va vb : V) (pa pb : PT), atI [V.ref p1, V.ref p2] (c % 2) = some (.ref pp) ∧ SqT K (upd (upd (upd H1 p1 (.tup [v, y])) p2 (.tup [y, v])) l1 (.lst [.ref p1, .ref p2])) pp [va, vb] ∧ TAt K H1 pa va ∧ TAt K H1 pb vb ∧ (pa = t ∧ pb = u ∨ pa = u ∧ pb = t) := by
      by_cases k : c % 2 = 0
      · exact ⟨p1, v, y, t, u, by rw [k]; exact at0 rfl, TS.of ((same_new m2).trans (same_new m3)) _ _ (SqT.of upd_same), ut, uu, .inl ⟨rfl, rfl⟩⟩
      · have k' : c % 2 = 1 := by omega
        exact ⟨p2, y, v, u, t, by rw [k']; exact at1 rfl, TS.of (same_new m3) _ _ (SqT.of upd_same), uu, ut, .inr ⟨rfl, rfl⟩⟩
    obtain ⟨pp, va, vb, pa, pb, epp, hpp, uva, uvb, epb⟩ := w
    refine ⟨_, rfl, _, _, rfl, rfl, (by show (0 : Int) < 2; decide), l1, _, _, .ref pp, rfl, rfl, SqL.of upd_same, epp, ?_⟩
    generalize hHa : upd (upd (upd H1 p1 (.tup [v, y])) p2 (.tup [y, v])) l1 (.lst [.ref p1, .ref p2]) = Ha at sa hpp ⊢
    refine ⟨_, rfl, _, _, _, _, rfl, rfl, hpp, at0 rfl, _, rfl, _, _, _, _, rfl, rfl, hpp, at1 rfl, sz (by show 3 ≤ 10000; decide), fun q1 b1 => ?_⟩
    have hpp1 := TS.of (K := K) (same_new (o := .tup [.str "row", va, vb]) b1) _ _ hpp
    refine ⟨_, rfl, _, _, _, _, rfl, rfl, hpp1, at0 rfl, _, rfl, _, _, _, _, rfl, rfl, hpp1, at1 rfl, sz (by show 3 ≤ 10000; decide), fun q2 b2 => ⟨sz (by show 2 ≤ 10000; decide), fun l2 b3 => ?_⟩⟩
    have sb := ((same_new (o := .tup [.str "row", va, vb]) b1).trans (same_new (o := .tup [.str "or", va, vb]) b2)).trans (same_new (o := .lst [.ref q1, .ref q2]) b3)
    have sab := sa.trans sb
    have k2 := Int.emod_nonneg (c / 2) (show (2 : Int) ≠ 0 by decide)
    have k3 := Int.emod_lt_of_pos (c / 2) (show (0 : Int) < 2 by decide)
    have w : ∃ (x : V) (r : PT), atI [V.ref q1, V.ref q2] (c / 2 % 2) = some x ∧ TAt K (upd (upd (upd Ha q1 (.tup [.str "row", va, vb])) q2 (.tup [.str "or", va, vb])) l2 (.lst [.ref q1, .ref q2])) r x ∧ tsz r = 1 + (tsz t + tsz u) ∧ thas r = (thas t || thas u) ∧
        (tnums r).Perm (tnums t ++ tnums u) ∧ ter r = (ter t || ter u) := by
      have key : ∀ r : PT, (r = .row pa pb ∨ r = .or pa pb) → tsz r = 1 + (tsz t + tsz u) ∧ thas r = (thas t || thas u) ∧ (tnums r).Perm (tnums t ++ tnums u) ∧ ter r = (ter t || ter u) := by
        intro r hr
        rcases epb with ⟨rfl, rfl⟩ | ⟨rfl, rfl⟩
        · rcases hr with rfl | rfl <;> exact ⟨rfl, rfl, .refl _, rfl⟩
        · rcases hr with rfl | rfl
          · exact ⟨congrArg (1 + ·) (Nat.add_comm _ _), Bool.or_comm _ _, List.perm_append_comm, Bool.or_comm _ _⟩
          · exact ⟨congrArg (1 + ·) (Nat.add_comm _ _), Bool.or_comm _ _, List.perm_append_comm, Bool.or_comm _ _⟩
      by_cases k : c / 2 % 2 = 0
      · exact ⟨.ref q1, .row pa pb, by rw [k]; exact at0 rfl, .row (TS.of ((same_new b2).trans (same_new b3)) _ _ (SqT.of upd_same)) (uva.mono (TL.of sab)) (uvb.mono (TL.of sab)), key _ (.inl rfl)⟩
      · have k' : c / 2 % 2 = 1 := by omega
        exact ⟨.ref q2, .or pa pb, by rw [k']; exact at1 rfl, .or (TS.of (same_new b3) _ _ (SqT.of upd_same)) (uva.mono (TL.of sab)) (uvb.mono (TL.of sab)), key _ (.inr rfl)⟩
    obtain ⟨x, r, ex, ur, z1, z2, z3, z4⟩ := w
    refine ⟨_, rfl, _, _, rfl, rfl, ⟨by decide, by decide⟩, _, _, rfl, rfl, (by show (0 : Int) < 2; decide), l2, _, _, x, rfl, rfl, SqL.of upd_same, ex, ?_⟩
    generalize hHb : upd (upd (upd Ha q1 (.tup [.str "row", va, vb])) q2 (.tup [.str "or", va, vb])) l2 (.lst [.ref q1, .ref q2]) = Hb at sab ur ⊢
    refine ⟨fun σ' H' => ∃ (v1 : V) (r1 : PT), σ' = [some (.ref a), some (.int c), some v1, some (.int (n + 1)), some y, some (.ref pp)] ∧ Same Hb H' ∧ TAt K H' r1 v1 ∧ tsz r1 ≤ 2 + (tsz t + tsz u) ∧ thas r1 = (thas t || thas u) ∧
      (∃ G : List Int, (G = [] ∨ G = [n + 1]) ∧ (tnums r1).Perm (G ++ (tnums t ++ tnums u))) ∧ ter r1 = (ter t || ter u), ?_, ?_⟩
    · refine ⟨_, rfl, _, _, rfl, rfl, ⟨by decide, by decide⟩, _, _, rfl, rfl, (by show (0 : Int) < 3; decide), rfl, _, rfl, ?_⟩
      refine ite2 (fun c1 => ?_) (fun c1 => ?_)
      · refine ⟨_, rfl, _, rfl, sz (by show 3 ≤ 10000; decide), fun t3 n3 => ?_⟩
        have s3 := same_new (o := .tup [.str "group", .int (n + 1), x]) n3
        refine ⟨.ref t3, .group (n + 1) r, rfl, s3, .group (SqT.of upd_same) (by omega) (ur.mono (TL.of s3)), ?_, z2, ⟨[n + 1], .inr rfl, List.Perm.cons _ z3⟩, z4⟩
        show 1 + tsz r ≤ _
        omega
      · exact ⟨x, r, rfl, Same.refl _, ur, by omega, z2, ⟨[], .inl rfl, z3⟩, z4⟩
    rintro σ1 H2 ⟨v1, r1, rfl, s2, u1, y1, y2, y3, y4⟩
    refine ⟨fun σ' H' => ∃ (v2 : V) (r2 : PT), σ' = [some (.ref a), some (.int c), some v2, some (.int (n + 1)), some y, some (.ref pp)] ∧ Same H2 H' ∧ TAt K H' r2 v2 ∧ Step t u (n + 1) r2, ?_, ?_⟩
    · refine ⟨_, rfl, _, _, rfl, rfl, ⟨by decide, by decide⟩, _, _, rfl, rfl, (by show (0 : Int) < 3; decide), rfl, _, rfl, ?_⟩
      refine ite2 (fun c1 => ?_) (fun c1 => ?_)
      · refine ⟨sz (by show 2 ≤ 10000; decide), fun l3 n3 => ?_⟩
        have k4 := Int.emod_nonneg (c / 12) (show (2 : Int) ≠ 0 by decide)
        have k5 := Int.emod_lt_of_pos (c / 12) (show (0 : Int) < 2 by decide)
        have w : ∃ (z : Str) (hd : PT → PT), atI [V.str "more", V.str "less"] (c / 12 % 2) = some (.str z) ∧ ∀ r : PT, (∀ {H3 : Hp} {t : Addr} {x : V}, SqT K H3 t [.str z, x] → TAt K H3 r x → TAt K H3 (hd r) (.ref t)) ∧ tsz (hd r) = 1 + tsz r ∧ thas (hd r) = thas r ∧ tnums (hd r) = tnums r ∧ ter (hd r) = (tnul r || ter r) := by
          by_cases k : c / 12 % 2 = 0
          · exact ⟨"more", .more, by rw [k]; exact at0 rfl, fun r => ⟨fun h u => .more h u, rfl, rfl, rfl, rfl⟩⟩
          · have k' : c / 12 % 2 = 1 := by omega
            exact ⟨"less", .less, by rw [k']; exact at1 rfl, fun r => ⟨fun h u => .less h u, rfl, rfl, rfl, rfl⟩⟩
        obtain ⟨z, hd, ez, mk⟩ := w
        obtain ⟨mk1, mk2, mk3, mk4, mk5⟩ := mk (.row (.ok .any) r1)
        refine ⟨_, rfl, _, _, rfl, rfl, ⟨by decide, by decide⟩, _, _, rfl, rfl, (by show (0 : Int) < 2; decide), l3, _, _, .str z, rfl, rfl, SqL.of upd_same, ez, ?_⟩
        refine ⟨sz (by show 1 ≤ 10000; decide), fun t4 n4 => ⟨_, rfl, sz (by show 3 ≤ 10000; decide), fun t5 n5 => ⟨sz (by show 2 ≤ 10000; decide), fun t6 n6 => ?_⟩⟩⟩
        have sc := same_new (o := .lst [.str "more", .str "less"]) n3
        have sd := same_new (o := .tup [.str "any"]) n4
        have se := same_new (o := .tup [.str "row", .ref t4, v1]) n5
        have sf := same_new (o := .tup [.str z, .ref t5]) n6
        have all := ((sc.trans sd).trans se).trans sf
        refine ⟨.ref t6, hd (.row (.ok .any) r1), rfl, all, mk1 (SqT.of upd_same) (.row (TS.of sf _ _ (SqT.of upd_same)) (.ok ⟨t4, rfl, TS.of (se.trans sf) _ _ (SqT.of upd_same)⟩) (u1.mono (TL.of all))), ?_, ?_, ?_, ?_⟩
        · rw [mk2]
          show 1 + (1 + (1 + tsz r1)) ≤ _
          omega
        · rw [mk3]
          show (false || thas r1) = _
          rw [Bool.false_or, y2]
        · rw [mk4]
          exact y3
        · rw [mk5]
          show ((false && _) || (false || ter r1)) = _
          rw [Bool.false_and, Bool.false_or, Bool.false_or, y4]
      · exact ⟨v1, r1, rfl, Same.refl _, u1, by omega, y2, y3, y4⟩
    rintro σ2 H3 ⟨v2, r2, rfl, s3, u2, st⟩
    refine ⟨_, rfl, _, _, rfl, rfl, ⟨by decide, by decide⟩, ?_⟩
    have s13 := (sab.trans s2).trans s3
    refine ⟨_, _, v2, r2, _, _, rfl, s1.trans s13, s13 _ _ hl, u2, ?_, n1⟩
    rw [n1] at st
    have tk : (t0 :: ts).take (i + 1 + 1) = (t0 :: ts).take (i + 1) ++ [u] := by
      obtain ⟨g1, g2⟩ := List.getElem?_eq_some_iff.mp hu
      show t0 :: ts.take (i + 1) = t0 :: ts.take i ++ [u]
      rw [← List.take_append_getElem g1, g2]
      rfl
    rw [tk]
    exact jr.step st
  · rintro σ H1 ⟨c, n, v, t, x4, x5, rfl, s1, hl, ut, jr, hn⟩
    refine ⟨_, rfl, ?_⟩
    rw [← lt, show (t0 :: ts).take (ts.length + 1) = t0 :: ts from List.take_length (l := t0 :: ts)] at jr
    exact q v t H1 s1 ut jr

end
end G1

set_option maxRecDepth 100000
set_option maxHeartbeats 4000000
namespace G1
open PySem PySem.Spec PyProof.Rows L2 Gm
section
variable {P : Program} {w : World} {K : PySem.W.Frag} {mg : Str → Option Value} {base : Heap}
section
variable {σ : L2.St}
def GA (σ : L2.St) (t : TA) (n : Nat) : Prop := ∀ H Q, (∀ xs H', Same H H' → xs.length = n → Q xs H') → t σ H Q
def GV (σ : L2.St) (t : TE) : Prop := ∀ H Q, (∀ v H', Same H H' → Q v H') → t σ H Q
def GT (K : PySem.W.Frag) (σ : L2.St) (t : TE) (p : V → String → Prop) : Prop := ∀ H Q, (∀ v T H', Same H H' → KT K H' v T → p v T → Q v H') → t σ H Q
def GTs (K : PySem.W.Frag) (σ : L2.St) (t : TA) (n : Nat) (p : V → String → Prop) : Prop := ∀ H Q, (∀ xs H', Same H H' → xs.length = n → (∀ x ∈ xs, ∃ T, KT K H' x T ∧ p x T) → Q xs H') → t σ H Q
def GB (K : PySem.W.Frag) (σ : L2.St) (t : TE) : Prop := ∀ H Q, (∀ v H', Same H H' → BadV K H' v → Q v H') → t σ H Q
def GBs (K : PySem.W.Frag) (σ : L2.St) (t : TA) (n : Nat) : Prop := ∀ H Q, (∀ xs H', Same H H' → xs.length = n → (∀ x ∈ xs, BadV K H' x) → Q xs H') → t σ H Q
theorem GA_nil : GA σ tNil 0 := fun H Q k => k [] H (Same.refl _) rfl
theorem GA_cons {te : TE} {ta : TA} {n : Nat} (h : GV σ te) (t : GA σ ta n) : GA σ (tCons te ta) (n + 1) := fun H Q k => h H _ fun v H1 s1 => t H1 _ fun xs H2 s2 e => k (v :: xs) H2 (s1.trans s2) (by rw [List.length_cons, e])
theorem GV_c {v : V} : GV σ (tC v) := fun H Q k => k v H (Same.refl _)
theorem GV_var {i : Nat} {v : V} (h : σ[i]? = some (some v)) : GV σ (tVar i) := fun H Q k => ⟨v, h, k v H (Same.refl _)⟩
theorem GV_tup {ta : TA} {n : Nat} (h : GA σ ta n) (z : n ≤ 10000) : GV σ (tTup ta) := fun H Q k => h H _ fun xs H1 s1 e => ⟨sz (by rw [e]; exact z), fun p hp => k _ _ (s1.trans (same_new hp))⟩
theorem GT_c {v : V} {T : String} {p : V → String → Prop} (t : ∀ H, KT K H v T) (h : p v T) : GT K σ (tC v) p := fun H Q k => k v T H (Same.refl _) (t H) h
theorem GT_var {i : Nat} {z : Str} {p : V → String → Prop} (e : σ[i]? = some (some (.str z))) (h : p (.str z) "str") : GT K σ (tVar i) p := fun H Q k => ⟨_, e, k _ _ H (Same.refl _) (.str z) h⟩
theorem GT_tup {ta : TA} {n : Nat} {p : V → String → Prop} (h : GA σ ta n) (z : n ≤ 10000) (hp : ∀ a, p (.ref a) "tuple") : GT K σ (tTup ta) p := fun H Q k => h H _ fun xs H1 s1 e => ⟨sz (by rw [e]; exact z), fun a ha => k _ _ _ (s1.trans (same_new ha)) (.tup (SqT.of upd_same)) (hp a)⟩
theorem GT_lst {ta : TA} {n : Nat} {p : V → String → Prop} (h : GA σ ta n) (z : n ≤ 10000) (hp : ∀ a, p (.ref a) "list") : GT K σ (tLst ta) p := fun H Q k => h H _ fun xs H1 s1 e => ⟨sz (by rw [e]; exact z), fun a ha => k _ _ _ (s1.trans (same_new ha)) (.lst upd_same) (hp a)⟩
theorem GT_dct {p : V → String → Prop} (hp : ∀ a, p (.ref a) "dict") : GT K σ tDNewK p := fun H Q k => fun a ha => k _ _ _ (same_new ha) (.dK upd_same) (hp a)
theorem GT_add {ta tb : TE} {x y : Str} {p : V → String → Prop} (ha : ∀ H Q, Q (.str x) H → ta σ H Q) (hb : ∀ H Q, Q (.str y) H → tb σ H Q) (z : x.length + y.length ≤ 10000) (h : p (.str (x ++ y)) "str") :
    GT K σ (tOp (fun x y H Q => ∃ i j, x = .str i ∧ y = .str j ∧ i.length + j.length ≤ sizeLine ∧ Q (.str (i ++ j)) H) ta tb) p :=
  fun H Q k => ha H _ (hb H _ ⟨x, y, rfl, rfl, sz z, k _ _ H (Same.refl _) (.str _) h⟩)
theorem GT_neg {i : Int} {p : V → String → Prop} (h : p (.int (-i)) "int") : GT K σ (tUn (rU fun i => .int (-i)) (tC (.int i))) p := fun H Q k => ⟨i, rfl, k _ _ H (Same.refl _) (.int _) h⟩
theorem GTs_nil {p : V → String → Prop} : GTs K σ tNil 0 p := fun H Q k => k [] H (Same.refl _) rfl fun x hx => by cases hx
theorem GTs_cons {te : TE} {ta : TA} {n : Nat} {p : V → String → Prop} (h : GT K σ te p) (t : GTs K σ ta n p) : GTs K σ (tCons te ta) (n + 1) p := fun H Q k => h H _ fun v T H1 s1 tv pv => t H1 _ fun xs H2 s2 e a =>
  k (v :: xs) H2 (s1.trans s2) (by rw [List.length_cons, e]) fun x hx => by
    rcases List.mem_cons.mp hx with z | z
    · rw [z]
      exact ⟨T, tv.mono (TL.of s2), pv⟩
    · exact a x z
theorem GBs_nil : GBs K σ tNil 0 := fun H Q k => k [] H (Same.refl _) rfl fun x hx => by cases hx
theorem GBs_cons {te : TE} {ta : TA} {n : Nat} (h : GB K σ te) (t : GBs K σ ta n) : GBs K σ (tCons te ta) (n + 1) := fun H Q k => h H _ fun v H1 s1 b => t H1 _ fun xs H2 s2 e a =>
  k (v :: xs) H2 (s1.trans s2) (by rw [List.length_cons, e]) fun x hx => by
    rcases List.mem_cons.mp hx with z | z
    · rw [z]
      exact b.mono (TL.of s2)
    · exact a x z
theorem GB_len {z : Str} {ta : TA} {n : Nat} (h : GA σ ta n) (e : lenOf z ≠ some ((n + 1 : Nat) : Int)) (zz : n + 1 ≤ 10000) : GB K σ (tTup (tCons (tC (.str z)) ta)) := fun H Q k => h H _ fun xs H1 s1 en => ⟨sz (by rw [List.length_cons, en]; exact zz), fun p hp =>
  k _ _ (s1.trans (same_new hp)) (.len (SqT.of upd_same) (by rw [en]; exact e))⟩
theorem GB_lenE {te : TE} {ta : TA} {n : Nat} (h0 : GT K σ te fun v _ => ∃ z, v = .str z ∧ lenOf z = none) (h : GA σ ta n) (zz : n + 1 ≤ 10000) : GB K σ (tTup (tCons te ta)) := fun H Q k => h0 H _ fun v T H0 s0 _ ⟨z, ev, ez⟩ => h H0 _ fun xs H1 s1 en =>
  ⟨sz (by rw [List.length_cons, en]; exact zz), fun p hp => k _ _ ((s0.trans s1).trans (same_new hp)) (by subst ev; exact .len (SqT.of upd_same) (by rw [ez]; exact fun q => by cases q))⟩
theorem GB_other {te : TE} (h : GT K σ te fun _ T => T ≠ "tuple") : GB K σ te := fun H Q k => h H _ fun v T H1 s1 t ne => k v H1 s1 (.other t ne)
theorem GB_nilt : GB K σ (tTup tNil) := fun H Q k => ⟨Nat.zero_le _, fun p hp => k _ _ (same_new hp) (.empty (SqT.of upd_same))⟩
theorem GB_name {te : TE} {ta : TA} {n : Nat} (h0 : GT K σ te fun _ T => T ≠ "str") (h : GA σ ta n) (zz : n + 1 ≤ 10000) : GB K σ (tTup (tCons te ta)) := fun H Q k => h0 H _ fun v T H0 s0 t ne => h H0 _ fun xs H1 s1 en =>
  ⟨sz (by rw [List.length_cons, en]; exact zz), fun p hp => k _ _ ((s0.trans s1).trans (same_new hp)) (.name (SqT.of upd_same) (t.mono (TL.of (s1.trans (same_new hp)))) ne)⟩
def noSg (v : V) (_ : String) : Prop := (∀ z, v = .str z → z.length ≤ 1000) ∧ isSg v = false
def noNo (v : V) (_ : String) : Prop := isNo v = false
theorem GB_sign {te : TE} (h : GT K σ te noSg) : GB K σ (tTup (tCons (tC (.str "sign")) (tCons te tNil))) := fun H Q k => h H _ fun v T H1 s1 t ⟨p1, p2⟩ => ⟨sz (by show 2 ≤ 10000; decide), fun p hp =>
  k _ _ (s1.trans (same_new hp)) (.sign (SqT.of upd_same) (t.mono (TL.new hp)) p1 p2)⟩
theorem GB_group {te tf : TE} (h : GT K σ te noNo) (g : GV σ tf) : GB K σ (tTup (tCons (tC (.str "group")) (tCons te (tCons tf tNil)))) := fun H Q k => h H _ fun v T H1 s1 t p1 => g H1 _ fun y H2 s2 => ⟨sz (by show 3 ≤ 10000; decide), fun p hp =>
  k _ _ ((s1.trans s2).trans (same_new hp)) (.group (SqT.of upd_same) (t.mono (TL.of (s2.trans (same_new hp)))) p1)⟩
theorem GT_ix {ta : TA} {ti : TE} {n : Nat} {j : Int} {p : V → String → Prop} (h : GTs K σ ta n p) (hi : ∀ H Q, Q (.int j) H → ti σ H Q) (j0 : 0 ≤ j) (j1 : j < (n : Int)) (z : n ≤ 10000) : GT K σ (tOp (rIxL K) (tLst ta) ti) p := fun H Q k => h H _ fun xs H1 s1 e a =>
  ⟨sz (by rw [e]; exact z), fun l hl => hi _ _ (by
    have hj : j.toNat < xs.length := by omega
    obtain ⟨T, t, pt⟩ := a _ (List.getElem_mem hj)
    exact ⟨l, xs, j, xs[j.toNat], rfl, rfl, SqL.of upd_same, at_of (j := j.toNat) (by omega) (List.getElem?_eq_getElem hj), k _ T _ (s1.trans (same_new hl)) (t.mono (TL.new hl)) pt⟩)⟩
end
theorem pl_none (c : Nat) : lenOf (("pl" : Str) ++ ⟨#[c]⟩) = none := by
  have ne : ∀ z : Str, z.cps[0]? ≠ some 112 → ¬ (("pl" : Str) ++ ⟨#[c]⟩) = z := fun z h e => h (by rw [← e]; rfl)
  unfold lenOf
  rw [if_neg (ne _ (by decide)), if_neg (ne _ (by decide)), if_neg (ne _ (by decide)), if_neg (ne _ (by decide)), if_neg (ne _ (by decide)), if_neg (ne _ (by decide)), if_neg (ne _ (by decide)), if_neg (ne _ (by decide))]
/-- a list of things that are no pattern -/
def BL (K : PySem.W.Frag) (H : Hp) (l : Addr) (n : Nat) : Prop := ∃ xs, H l = some (.lst xs) ∧ xs.length = n ∧ ∀ x ∈ xs, BadV K H x
theorem lstB {σ : L2.St} {ta : TA} {n : Nat} {H : Hp} {Q : VK} (g : GBs K σ ta n) (z : n ≤ 1000) (k : ∀ l H', Same H H' → BL K H' l n → Q (.ref l) H') : tLst ta σ H Q := g H _ fun xs H1 s1 e b =>
  ⟨sz (by rw [e]; omega), fun l hl => k l _ (s1.trans (same_new hl)) ⟨xs, upd_same, e, fun x hx => (b x hx).mono (TL.new hl)⟩⟩
theorem catB {σ : L2.St} {ta : TA} {n m : Nat} {l : Addr} {H : Hp} {Q : VK} (hs : σ[2]? = some (some (.ref l))) (b : BL K H l n) (g : GBs K σ ta m) (z : n + m ≤ 1000) (k : ∀ l' H', Same H H' → H l' = none → BL K H' l' (n + m) → Q (.ref l') H') :
    tOp rCat (tVar 2) (tLst ta) σ H Q := by
  obtain ⟨xs, h, e, bx⟩ := b
  refine ⟨_, hs, g H _ fun ys H1 s1 ey by1 => ⟨sz (by rw [ey]; omega), fun l2 h2 => ?_⟩⟩
  refine ⟨l, l2, xs, ys, rfl, rfl, same_new h2 _ _ (s1 _ _ h), upd_same, sz (by rw [e, ey]; omega), fun p hp => ?_⟩
  have s3 := (s1.trans (same_new h2)).trans (same_new (o := .lst (xs ++ ys)) hp)
  refine k p _ s3 ((s1.trans (same_new h2)).free hp) ⟨_, upd_same, by rw [List.length_append, e, ey], fun x hx => ?_⟩
  rcases List.mem_append.mp hx with q | q
  · exact (bx x q).mono (TL.of s3)
  · exact (by1 x q).mono (TL.of ((same_new h2).trans (same_new hp)))
theorem sSet {te : TE} {u : L2.TS} {D : Ends} {σ : L2.St} {H : Hp} {i : Nat} (h : te σ H fun x H1 => u D (σ.set i (some x)) H1) : tSeq (tAsg te (gName i)) u D σ H := h
theorem sDrop {te : TE} {u : L2.TS} {D : Ends} {σ : L2.St} {H : Hp} (h : te σ H fun _ H1 => u D σ H1) : tSeq (tDrop te) u D σ H := h
theorem sRet {te : TE} {D : Ends} {σ : L2.St} {H : Hp} (h : te σ H D.rt) : tRet te D σ H := h
theorem getB {H : Hp} {l : Addr} {n : Nat} {j : Int} (b : BL K H l n) (j0 : 0 ≤ j) (j1 : j < (n : Int)) : ∃ xs v, SqL K H l xs ∧ atI xs j = some v ∧ BadV K H v := by
  obtain ⟨xs, h, e, bx⟩ := b
  have hj : j.toNat < xs.length := by omega
  exact ⟨xs, xs[j.toNat], SqL.of h, at_of (j := j.toNat) (by omega) (List.getElem?_eq_getElem hj), bx _ (List.getElem_mem hj)⟩
def sp_bad (K : PySem.W.Frag) : Sp := fun vs H Q _ => ∃ (c : Int) (g : Nat), vs = [.int c, .str ⟨#[g]⟩] ∧ ∀ (v : V) (H' : Hp), Same H H' → BadV K H' v → Q v H'
theorem ok__law_bad (T : Txt w K mg) : FnOk P w K mg base CX0 1 T.f__law_bad T.fd__law_bad ["_law_cell", "_law_sign_here"] (sp_bad K) := by
  refine T.F__law_bad.ok sc__law_bad (fun vs H Q E h => ?_) (fun cdv A outer s H vs Q E hr h => ?_)
  · obtain ⟨c, g, rfl, _⟩ := h
    rfl
  obtain ⟨c, g, rfl, q⟩ := h
  refine ⟨_, (pss_cons (ps_set (i := 2) sc__law_bad.nd rfl (.inl rfl) (pe_lst (pa_cons (pe_tup (pa_cons pe_str (pa_cons pe_str pa_nil))) (pa_cons (pe_tup (pa_cons pe_str (pa_cons (pe_op op_add_str (pv 1) pe_str) pa_nil))) (pa_cons (pe_tup (pa_cons pe_str (pa_cons pe_int pa_nil))) (pa_cons (pe_tup (pa_cons pe_str pa_nil)) (pa_cons (pe_tup (pa_cons pe_str (pa_cons (pv 1) (pa_cons (pv 1) pa_nil)))) (pa_cons (pe_tup (pa_cons pe_str (pa_cons (pv 1) pa_nil))) (pa_cons (pe_tup (pa_cons pe_str (pa_cons pe_int pa_nil))) pa_nil)))))))))
  (pss_cons (ps_set (i := 2) sc__law_bad.nd rfl (.inl rfl) (pe_op op_cat (pv 2) (pe_lst (pa_cons (pe_tup (pa_cons pe_str (pa_cons pe_str pa_nil))) (pa_cons (pe_tup (pa_cons pe_str (pa_cons (pe_tup (pa_cons pe_str pa_nil)) pa_nil))) (pa_cons (pe_tup (pa_cons pe_str (pa_cons (pe_tup (pa_cons pe_str pa_nil)) (pa_cons (pe_tup (pa_cons pe_str pa_nil)) (pa_cons (pe_tup (pa_cons pe_str pa_nil)) pa_nil))))) (pa_cons (pe_tup (pa_cons pe_str (pa_cons (pe_tup (pa_cons pe_str pa_nil)) pa_nil))) (pa_cons (pe_tup (pa_cons pe_str pa_nil)) pa_nil))))))))
  (pss_cons (ps_set (i := 2) sc__law_bad.nd rfl (.inl rfl) (pe_op op_cat (pv 2) (pe_lst (pa_cons (pe_tup (pa_cons pe_str pa_nil)) (pa_cons (pe_tup (pa_cons pe_str (pa_cons (pe_tup (pa_cons pe_str pa_nil)) (pa_cons pe_int pa_nil)))) (pa_cons (pe_tup (pa_cons pe_str pa_nil)) (pa_cons (pe_tup (pa_cons pe_str (pa_cons pe_int (pa_cons (pe_tup (pa_cons pe_str pa_nil)) pa_nil)))) (pa_cons (pe_tup (pa_cons pe_str (pa_cons (pe_un un_neg pe_int) (pa_cons (pe_tup (pa_cons pe_str pa_nil)) pa_nil)))) pa_nil))))))))
  (pss_cons (ps_set (i := 2) sc__law_bad.nd rfl (.inl rfl) (pe_op op_cat (pv 2) (pe_lst (pa_cons (pe_tup (pa_cons pe_str (pa_cons pe_bl (pa_cons (pe_tup (pa_cons pe_str pa_nil)) pa_nil)))) (pa_cons (pe_tup (pa_cons pe_str (pa_cons pe_str (pa_cons (pe_tup (pa_cons pe_str pa_nil)) pa_nil)))) (pa_cons (pe_tup (pa_cons pe_str (pa_cons pe_int pa_nil))) (pa_cons (pv 1) (pa_cons pe_int (pa_cons pe_non (pa_cons (pe_lst (pa_cons pe_str pa_nil)) (pa_cons (pe_tup pa_nil) pa_nil)))))))))))
  (pss_cons (ps_set (i := 2) sc__law_bad.nd rfl (.inl rfl) (pe_op op_cat (pv 2) (pe_lst (pa_cons (pe_tup (pa_cons pe_str (pa_cons pe_int pa_nil))) (pa_cons (pe_tup (pa_cons pe_str (pa_cons (pe_tup (pa_cons pe_str pa_nil)) (pa_cons pe_int pa_nil)))) (pa_cons (pe_tup (pa_cons pe_str (pa_cons (pe_tup (pa_cons pe_str pa_nil)) (pa_cons (pe_tup (pa_cons pe_str pa_nil)) (pa_cons (pe_tup (pa_cons pe_str pa_nil)) pa_nil))))) pa_nil))))))
  (pss_cons (ps_expr (pe_bm PySem.F.plainAttrs_list PySem.F.slot_list_append PySem.F.type_list_append mt_append (pv 2) (pa_cons (pe_tup (pa_cons pe_str (pa_cons pe_int (pa_cons (pe_tup (pa_cons pe_str pa_nil)) (pa_cons (pe_tup (pa_cons pe_str pa_nil)) pa_nil))))) pa_nil)))
  (pss_cons (ps_set (i := 2) sc__law_bad.nd rfl (.inl rfl) (pe_op op_cat (pv 2) (pe_lst (pa_cons (pe_tup (pa_cons pe_str (pa_cons (pe_tup (pa_cons pe_str pa_nil)) pa_nil))) (pa_cons (pe_tup (pa_cons pe_str (pa_cons (pe_tup (pa_cons pe_str pa_nil)) pa_nil))) (pa_cons (pe_tup (pa_cons pe_str pa_nil)) (pa_cons (pe_tup (pa_cons pe_str (pa_cons (pe_tup (pa_cons pe_str pa_nil)) (pa_cons (pe_tup (pa_cons pe_str pa_nil)) pa_nil)))) (pa_cons (pe_tup (pa_cons pe_int (pa_cons (pe_tup (pa_cons pe_str pa_nil)) pa_nil))) pa_nil))))))))
  (pss_cons (ps_set (i := 2) sc__law_bad.nd rfl (.inl rfl) (pe_op op_cat (pv 2) (pe_lst (pa_cons (pe_tup (pa_cons (pe_tup (pa_cons pe_str pa_nil)) pa_nil)) (pa_cons (pe_tup (pa_cons (pe_lst (pa_cons pe_str pa_nil)) pa_nil)) (pa_cons (pe_tup (pa_cons pe_dnewK pa_nil)) (pa_cons (pe_tup (pa_cons (pe_op op_add_str pe_str (pv 1)) pa_nil)) (pa_cons (pe_tup (pa_cons (pe_op op_add_str pe_str (pv 1)) (pa_cons (pe_tup (pa_cons pe_str pa_nil)) pa_nil))) pa_nil))))))))
  (pss_cons (ps_set (i := 2) sc__law_bad.nd rfl (.inl rfl) (pe_op op_cat (pv 2) (pe_lst (pa_cons (pe_tup (pa_cons (pe_op op_add_str pe_str (pv 1)) (pa_cons (pe_tup (pa_cons pe_str pa_nil)) (pa_cons (pe_tup (pa_cons pe_str pa_nil)) pa_nil)))) (pa_cons (pe_tup (pa_cons pe_str (pa_cons (pe_tup (pa_cons pe_str pa_nil)) pa_nil))) (pa_cons (pe_tup (pa_cons pe_str (pa_cons (pe_lst (pa_cons pe_str pa_nil)) pa_nil))) (pa_cons (pe_tup (pa_cons pe_str (pa_cons pe_non pa_nil))) pa_nil)))))))
  (pss_cons (ps_set (i := 2) sc__law_bad.nd rfl (.inl rfl) (pe_op op_cat (pv 2) (pe_lst (pa_cons (pe_tup (pa_cons pe_str (pa_cons pe_non (pa_cons (pe_tup (pa_cons pe_str pa_nil)) pa_nil)))) (pa_cons (pe_tup (pa_cons (pe_lst (pa_cons pe_str pa_nil)) (pa_cons pe_int pa_nil))) (pa_cons (pe_tup (pa_cons pe_dnewK (pa_cons (pe_tup (pa_cons pe_str pa_nil)) pa_nil))) pa_nil))))))
  (pss_cons (ps_if (pt_cmpR op_eq (pe_op op_mod (pv 0) pe_int) pe_int (nomark _))
    (pss_one (ps_ret (pe_tup (pa_cons pe_str (pa_cons (pe_ix ix_list (pe_lst (pa_cons pe_int (pa_cons (pe_un un_neg pe_int) (pa_cons pe_bl (pa_cons pe_str (pa_cons pe_non (pa_cons pe_bl pa_nil))))))) (pe_op op_mod (pe_op op_fdiv (pv 0) pe_int) pe_int) (fun _ _ => rfl)) (pa_cons (pe_tup (pa_cons pe_str pa_nil)) pa_nil))))))
    pss_nil)
  (pss_cons (ps_if (pt_cmpR op_eq (pe_op op_mod (pv 0) pe_int) pe_int (nomark _))
    (pss_one (ps_ret (pe_ix ix_list (pv 2) (pe_op op_add pe_int (pe_op op_mod (pe_op op_fdiv (pv 0) pe_int) pe_int)) (fun _ _ => rfl))))
    pss_nil)
  (pss_cons (ps_if (pt_cmpR op_eq (pe_op op_mod (pv 0) pe_int) pe_int (nomark _))
    (pss_one (ps_ret (pe_tup (pa_cons pe_str (pa_cons (pe_ix ix_list (pe_lst (pa_cons pe_str (pa_cons (pe_op op_add_str (pv 1) pe_str) (pa_cons (pe_op op_add_str (pv 1) (pv 1)) (pa_cons pe_int (pa_cons pe_non (pa_cons (pe_tup (pa_cons pe_str pa_nil)) (pa_cons (pe_lst (pa_cons pe_str pa_nil)) pa_nil)))))))) (pe_op op_mod (pe_op op_fdiv (pv 0) pe_int) pe_int) (fun _ _ => rfl)) pa_nil)))))
    pss_nil)
  (pss_one (ps_ret (pe_ix ix_list (pv 2) (pe_op op_mod (pe_op op_fdiv (pv 0) pe_int) pe_int) (fun _ _ => rfl))))))))))))))))), ?_⟩
  -- ("any",), and the sign, wherever they are asked for
  have any : ∀ {σ : L2.St}, GV σ (tTup (tCons (tC (.str "any")) tNil)) := GV_tup (GA_cons GV_c GA_nil) (by decide)
  have any1 : ∀ {σ : L2.St}, GA σ (tCons (tTup (tCons (tC (.str "any")) tNil)) tNil) 1 := GA_cons any GA_nil
  have any2 : ∀ {σ : L2.St}, GA σ (tCons (tTup (tCons (tC (.str "any")) tNil)) (tCons (tTup (tCons (tC (.str "any")) tNil)) tNil)) 2 := GA_cons any any1
  have any3 : ∀ {σ : L2.St}, GA σ (tCons (tTup (tCons (tC (.str "any")) tNil)) (tCons (tTup (tCons (tC (.str "any")) tNil)) (tCons (tTup (tCons (tC (.str "any")) tNil)) tNil))) 3 := GA_cons any any2
  have vg : ∀ {x : Option V} {H : Hp} {Q : VK}, Q (.str ⟨#[g]⟩) H → tVar 1 [some (.int c), some (.str ⟨#[g]⟩), x] H Q := fun h => ⟨_, rfl, h⟩
  have noS : ∀ {z : Str}, z.length ≤ 1000 → z.length ≠ 1 → noSg (.str z) "str" := fun {z} h1 h2 => ⟨fun y e => by cases e; exact h1, decide_eq_false h2⟩
  have noS' : ∀ {v : V} {T : String}, (∀ z, v ≠ .str z) → noSg v T := fun {v T} h => ⟨fun z e => absurd e (h z), by cases v <;> first | rfl | exact absurd rfl (h _)⟩
  have l2 : ((⟨#[g]⟩ : Str) ++ ("a" : Str)).length = 2 := rfl
  refine sSet (lstB (K := K) (n := 7) ?g1 (by decide) fun l1 H1 s1 b1 => ?_)
  case g1 =>
    refine GBs_cons (GB_sign (GT_c (fun _ => .str _) (noS (by decide) (by decide)))) ?_
    refine GBs_cons (GB_sign (GT_add (x := ⟨#[g]⟩) (y := "a") (fun _ _ h => vg h) (fun _ _ h => h) (by show 2 ≤ 10000; decide) (noS (by show 2 ≤ 1000; decide) (by show 2 ≠ 1; decide)))) ?_
    refine GBs_cons (GB_sign (GT_c (fun _ => .int _) (noS' (fun z e => by cases e)))) ?_
    refine GBs_cons (GB_len GA_nil (by decide +kernel) (by decide)) ?_
    refine GBs_cons (GB_len (GA_cons (GV_var rfl) (GA_cons (GV_var rfl) GA_nil)) (by decide +kernel) (by decide)) ?_
    refine GBs_cons (GB_len (GA_cons (GV_var rfl) GA_nil) (by decide +kernel) (by decide)) ?_
    exact GBs_cons (GB_len (GA_cons GV_c GA_nil) (by decide +kernel) (by decide)) GBs_nil
  refine sSet (catB rfl b1 (m := 5) ?g2 (by decide) fun l2 H2 s2 _ b2 => ?_)
  case g2 =>
    refine GBs_cons (GB_len (GA_cons GV_c GA_nil) (by decide +kernel) (by decide)) ?_
    refine GBs_cons (GB_len any1 (by decide +kernel) (by decide)) ?_
    refine GBs_cons (GB_len any3 (by decide +kernel) (by decide)) ?_
    refine GBs_cons (GB_len any1 (by decide +kernel) (by decide)) ?_
    exact GBs_cons (GB_len GA_nil (by decide +kernel) (by decide)) GBs_nil
  refine sSet (catB rfl b2 (m := 5) ?g3 (by decide) fun l3 H3 s3 _ b3 => ?_)
  case g3 =>
    refine GBs_cons (GB_len GA_nil (by decide +kernel) (by decide)) ?_
    refine GBs_cons (GB_len (GA_cons any (GA_cons GV_c GA_nil)) (by decide +kernel) (by decide)) ?_
    refine GBs_cons (GB_len GA_nil (by decide +kernel) (by decide)) ?_
    refine GBs_cons (GB_group (GT_c (fun _ => .int _) rfl) any) ?_
    exact GBs_cons (GB_group (GT_neg rfl) any) GBs_nil
  refine sSet (catB rfl b3 (m := 8) ?g4 (by decide) fun l4 H4 s4 _ b4 => ?_)
  case g4 =>
    refine GBs_cons (GB_group (GT_c (fun _ => .bl _) rfl) any) ?_
    refine GBs_cons (GB_group (GT_c (fun _ => .str _) rfl) any) ?_
    refine GBs_cons (GB_len (GA_cons GV_c GA_nil) (by decide +kernel) (by decide)) ?_
    refine GBs_cons (GB_other (GT_var rfl (by decide))) ?_
    refine GBs_cons (GB_other (GT_c (fun _ => .int _) (by decide))) ?_
    refine GBs_cons (GB_other (GT_c (fun _ => .non) (by decide))) ?_
    refine GBs_cons (GB_other (GT_lst (GA_cons GV_c GA_nil) (by decide) (fun _ => by decide))) ?_
    exact GBs_cons GB_nilt GBs_nil
  refine sSet (catB rfl b4 (m := 3) ?g5 (by decide) fun l5 H5 s5 n5 b5 => ?_)
  case g5 =>
    refine GBs_cons (GB_len (GA_cons GV_c GA_nil) (by decide +kernel) (by decide)) ?_
    refine GBs_cons (GB_len (GA_cons any (GA_cons GV_c GA_nil)) (by decide +kernel) (by decide)) ?_
    exact GBs_cons (GB_len any3 (by decide +kernel) (by decide)) GBs_nil
  obtain ⟨x5, h5, e5, a5⟩ := b5
  refine sDrop ⟨_, rfl, .inl ⟨rfl, _, SqL.of h5⟩, ?_⟩
  refine GB_len (K := K) (GA_cons GV_c any2) (by decide +kernel) (by decide) _ _ fun v6 H6 s6 b6 => ?_
  have h6 := s6 _ _ h5
  refine ⟨l5, x5, v6, rfl, rfl, h6, szl (by rw [e5]; decide), ?_⟩
  have tl := TL.lst (K := K) (ys := x5 ++ [v6]) h6
  have b7 : BL K (upd H6 l5 (.lst (x5 ++ [v6]))) l5 29 := ⟨_, upd_same, by rw [List.length_append, e5]; rfl, fun x hx => by
    rcases List.mem_append.mp hx with z | z
    · exact ((a5 x z).mono (TL.of s6)).mono tl
    · rw [List.mem_singleton.mp z]
      exact b6.mono tl⟩
  have s14 := ((s1.trans s2).trans s3).trans s4
  have s7 : Same H (upd H6 l5 (.lst (x5 ++ [v6]))) := Same.mut ((s14.trans s5).trans s6) (s14.free n5)
  generalize upd H6 l5 (.lst (x5 ++ [v6])) = H7 at s7 b7 ⊢
  refine sSet (catB rfl b7 (m := 5) ?g6 (by decide) fun l8 H8 s8 _ b8 => ?_)
  case g6 =>
    refine GBs_cons (GB_len any1 (by decide +kernel) (by decide)) ?_
    refine GBs_cons (GB_len any1 (by decide +kernel) (by decide)) ?_
    refine GBs_cons (GB_len GA_nil (by decide +kernel) (by decide)) ?_
    refine GBs_cons (GB_len any2 (by decide +kernel) (by decide)) ?_
    exact GBs_cons (GB_name (GT_c (fun _ => .int _) (by decide)) any1 (by decide)) GBs_nil
  have pl : ∀ {x : Option V}, GT K [some (.int c), some (.str ⟨#[g]⟩), x] (tOp (fun x y H Q => ∃ i j, x = .str i ∧ y = .str j ∧ i.length + j.length ≤ sizeLine ∧ Q (.str (i ++ j)) H) (tC (.str "pl")) (tVar 1)) fun v _ => ∃ z, v = .str z ∧ lenOf z = none :=
    fun {x} => GT_add (x := "pl") (y := ⟨#[g]⟩) (fun _ _ h => h) (fun _ _ h => vg h) (by show 3 ≤ 10000; decide) ⟨_, rfl, pl_none g⟩
  refine sSet (catB rfl b8 (m := 5) ?g7 (by decide) fun l9 H9 s9 _ b9 => ?_)
  case g7 =>
    refine GBs_cons (GB_name (GT_tup (GA_cons GV_c GA_nil) (by decide) (fun _ => by decide)) GA_nil (by decide)) ?_
    refine GBs_cons (GB_name (GT_lst (GA_cons GV_c GA_nil) (by decide) (fun _ => by decide)) GA_nil (by decide)) ?_
    refine GBs_cons (GB_name (GT_dct (fun _ => by decide)) GA_nil (by decide)) ?_
    refine GBs_cons (GB_lenE pl GA_nil (by decide)) ?_
    exact GBs_cons (GB_lenE pl any1 (by decide)) GBs_nil
  refine sSet (catB rfl b9 (m := 4) ?g8 (by decide) fun l10 H10 s10 _ b10 => ?_)
  case g8 =>
    refine GBs_cons (GB_lenE pl any2 (by decide)) ?_
    refine GBs_cons (GB_sign (GT_tup (GA_cons GV_c GA_nil) (by decide) (fun _ => noS' (fun z e => by cases e)))) ?_
    refine GBs_cons (GB_sign (GT_lst (GA_cons GV_c GA_nil) (by decide) (fun _ => noS' (fun z e => by cases e)))) ?_
    exact GBs_cons (GB_sign (GT_c (fun _ => .non) (noS' (fun z e => by cases e)))) GBs_nil
  refine sSet (catB rfl b10 (m := 3) ?g9 (by decide) fun l11 H11 s11 _ b11 => ?_)
  case g9 =>
    refine GBs_cons (GB_group (GT_c (fun _ => .non) rfl) any) ?_
    refine GBs_cons (GB_name (GT_lst (GA_cons GV_c GA_nil) (by decide) (fun _ => by decide)) (GA_cons GV_c GA_nil) (by decide)) ?_
    exact GBs_cons (GB_name (GT_dct (fun _ => by decide)) any1 (by decide)) GBs_nil
  have sN := (((s7.trans s8).trans s9).trans s10).trans s11
  have ix : ∀ {σ : L2.St} (m : Int), (0 : Int) < m → σ[0]? = some (some (.int c)) → ∀ H Q, Q (.int (c / 4 % m)) H → tOp (rI (fun _ j => 0 < j) fun i j => .int (i % j)) (tOp (rI CDiv fun i j => .int (i / j)) (tVar 0) (tC (.int 4))) (tC (.int m)) σ H Q :=
    fun m hm e H Q h => ⟨_, e, _, _, rfl, rfl, ⟨by decide, by decide⟩, _, _, rfl, rfl, hm, h⟩
  have m0 : ∀ m : Int, (0 : Int) < m → 0 ≤ c / 4 % m := fun m hm => Int.emod_nonneg _ (by omega)
  have m1 : ∀ m : Int, (0 : Int) < m → c / 4 % m < m := fun m hm => Int.emod_lt_of_pos _ hm
  refine ⟨_, rfl, _, _, rfl, rfl, (by show (0 : Int) < 4; decide), rfl, _, rfl, ?_⟩
  refine ite2 (fun c1 => ?_) (fun c1 => ?_)
  · refine GB_group (K := K) (GT_ix (n := 6) (j := c / 4 % 6) ?g10 (ix 6 (by decide) rfl) (m0 6 (by decide)) (m1 6 (by decide)) (by decide)) any _ _ fun v H' s' b' => q v H' (sN.trans s') b'
    case g10 =>
      refine GTs_cons (GT_c (fun _ => .int _) rfl) ?_
      refine GTs_cons (GT_neg rfl) ?_
      refine GTs_cons (GT_c (fun _ => .bl _) rfl) ?_
      refine GTs_cons (GT_c (fun _ => .str _) rfl) ?_
      refine GTs_cons (GT_c (fun _ => .non) rfl) ?_
      exact GTs_cons (GT_c (fun _ => .bl _) rfl) GTs_nil
  refine ⟨_, rfl, _, _, rfl, rfl, (by show (0 : Int) < 4; decide), rfl, _, rfl, ?_⟩
  refine ite2 (fun c2 => ?_) (fun c2 => ?_)
  · obtain ⟨xs, v, k1, k2, k3⟩ := getB (j := 29 + c / 4 % 17) b11 (by have := m0 17 (by decide); omega) (by have := m1 17 (by decide); show _ < (46 : Int); omega)
    exact ⟨_, rfl, _, rfl, _, _, rfl, rfl, ⟨by decide, by decide⟩, _, _, rfl, rfl, (by show (0 : Int) < 17; decide), _, _, rfl, rfl, l11, xs, _, v, rfl, rfl, k1, k2, q v _ sN k3⟩
  refine ⟨_, rfl, _, _, rfl, rfl, (by show (0 : Int) < 4; decide), rfl, _, rfl, ?_⟩
  refine ite2 (fun c3 => ?_) (fun c3 => ?_)
  · refine GB_sign (K := K) (GT_ix (n := 7) (j := c / 4 % 7) ?g11 (ix 7 (by decide) rfl) (m0 7 (by decide)) (m1 7 (by decide)) (by decide)) _ _ fun v H' s' b' => q v H' (sN.trans s') b'
    case g11 =>
      refine GTs_cons (GT_c (fun _ => .str _) (noS (by decide) (by decide))) ?_
      refine GTs_cons (GT_add (x := ⟨#[g]⟩) (y := "a") (fun _ _ h => vg h) (fun _ _ h => h) (by show 2 ≤ 10000; decide) (noS (by show 2 ≤ 1000; decide) (by show 2 ≠ 1; decide))) ?_
      refine GTs_cons (GT_add (x := ⟨#[g]⟩) (y := ⟨#[g]⟩) (fun _ _ h => vg h) (fun _ _ h => vg h) (by show 2 ≤ 10000; decide) (noS (by show 2 ≤ 1000; decide) (by show 2 ≠ 1; decide))) ?_
      refine GTs_cons (GT_c (fun _ => .int _) (noS' (fun z e => by cases e))) ?_
      refine GTs_cons (GT_c (fun _ => .non) (noS' (fun z e => by cases e))) ?_
      refine GTs_cons (GT_tup (GA_cons GV_c GA_nil) (by decide) (fun _ => noS' (fun z e => by cases e))) ?_
      exact GTs_cons (GT_lst (GA_cons GV_c GA_nil) (by decide) (fun _ => noS' (fun z e => by cases e))) GTs_nil
  obtain ⟨xs, v, k1, k2, k3⟩ := getB (j := c / 4 % 46) b11 (m0 46 (by decide)) (m1 46 (by decide))
  exact ⟨_, rfl, _, rfl, _, _, rfl, rfl, ⟨by decide, by decide⟩, _, _, rfl, rfl, (by show (0 : Int) < 46; decide), l11, xs, _, v, rfl, rfl, k1, k2, q v _ sN k3⟩

end
end G1

set_option maxRecDepth 100000
set_option maxHeartbeats 4000000
namespace G1
open PySem PySem.Spec PyProof.Rows L2 Gm
section
variable {P : Program} {w : World} {K : PySem.W.Frag} {mg : Str → Option Value} {base : Heap}
theorem kit_ref {t : Value} {C : Addr} {b : Bool} (hd : PySem.W.hasDictIn K C = true) (ht : PySem.W.typeIn K (.ref C) = some (.type "type")) (hs : PySem.W.subIn K t (.ref C) = some b) (hself : PySem.W.subIn K (.ref C) (.ref C) = some true) :
    PySem.W.kitOne K t (.ref C) = some b := by
  unfold PySem.W.kitOne
  by_cases e : (t == Value.ref C) = true
  · rw [if_pos e]
    rw [beq_iff_eq.mp e] at hs
    exact hself.symm.trans hs
  · rw [if_neg e]
    obtain ⟨cd, hc, _⟩ := PySem.W.any_some hd
    have e2 : ((PySem.W.clsIn K C).isSome && PySem.W.typeIn K (.ref C) == some (.type "type")) = true := by rw [hc, ht] <;> rfl
    show (if ((PySem.W.clsIn K C).isSome && PySem.W.typeIn K (.ref C) == some (.type "type")) = true then PySem.W.subIn K t (.ref C) else none) = some b
    rw [if_pos e2]
    exact hs
theorem kit_ve {D : Addr} (hs : PySem.W.subIn K (.ref D) (.type "ValueError") = some true) : PySem.W.kitOne K (.ref D) (.type "ValueError") = some true := by
  unfold PySem.W.kitOne
  rw [if_neg (by simp)]
  show (if PySem.W.kitMeta "ValueError" = true then PySem.W.subIn K (.ref D) (.type "ValueError") else none) = some true
  rw [if_pos (by decide +kernel)]
  exact hs

end
end G1

set_option maxRecDepth 100000
set_option maxHeartbeats 4000000
namespace G1
open PySem PySem.Spec PyProof.Rows L2 Gm
section
variable {P : Program} {w : World} {K : PySem.W.Frag} {mg : Str → Option Value} {base : Heap}
/-- nothing is asked: it is never come to -/
def sp_never : Sp := fun _ _ _ _ => False
theorem pss_false {X : Cx} {ss : List Stmt} : PSs X ss (fun _ _ _ => False) := ⟨fun _ _ _ _ _ _ h => h.elim⟩
theorem ok_first_state (T : Txt w K mg) : FnOk P w K mg base CX0 1 T.f_first_state T.fd_first_state ["pattern"] sp_never :=
  T.F_first_state.ok sc_first_state (fun vs H Q E h => h.elim) (fun cdv A outer s H vs Q E hr h => h.elim)
theorem ok_numbers_ahead (T : Txt w K mg) : FnOk P w K mg base CX0 4 T.f_numbers_ahead T.fd_numbers_ahead ["pattern"] sp_never :=
  T.F_numbers_ahead.ok sc_numbers_ahead (fun vs H Q E h => h.elim) (fun cdv A outer s H vs Q E hr h => h.elim)
/-- handed a thing that is due to be refused, and others, it refuses so -/
def sp_refuses (T : Txt w K mg) (n : Nat) : Sp := fun vs H Q E => ∃ (v : V) (us : List V) (d : Due), vs = v :: us ∧ us.length = n ∧ DueIs K H v d ∧ d ≠ .none ∧ ∀ H', Same H H' → E (.ref (T.cls d)) none H'
theorem refuses_len {T : Txt w K mg} {n : Nat} {vs : List V} {H : Hp} {Q : VK} {E : XK} (h : sp_refuses T n vs H Q E) : vs.length = n + 1 := by
  obtain ⟨v, us, d, rfl, hn, _⟩ := h
  rw [List.length_cons, hn]
theorem ok_walk (T : Txt w K mg) : FnOk P w K mg base (L2N.CX P w) 5 T.f_walk T.fd_walk ["pattern", "text", "way"] (sp_refuses T 2) := by
  refine okN T.F_walk sc_walk (fun vs H Q E h => refuses_len h) (fun cdv A outer s H vs Q E hr h => ?_)
  obtain ⟨v, us, d, rfl, hl, hd, hn, q⟩ := h
  obtain ⟨x, y, rfl⟩ := l2 hl.symm
  refine ⟨_, (pss_cons (ps_set (i := 3) sc_walk.nd rfl (.inl rfl) (pe_lst (pa_cons (pe_call (ok_first_state T) (hr.mono (by decide)) (by rfl) T.m_first_state T.F_first_state.kp T.b_first_state .nil pass0 (pa_cons (pe_call (ok_checked T) (hr.mono (by decide)) (by rfl) T.m_checked T.F_checked.kp T.b_checked .nil (L2N.passes_call (L2N.takes_of rfl rfl rfl rfl) fun _ _ _ _ h => h) (pa_cons (pv 0) pa_nil)) pa_nil)) pa_nil))) pss_false), ?_⟩
  exact ⟨_, rfl, v, d, rfl, hd, fun z => absurd z hn, fun _ H' s1 => q H' s1⟩
theorem ok_marks (T : Txt w K mg) : FnOk P w K mg base (L2N.CX P w) 6 T.f_marks T.fd_marks ["pattern", "text", "way"] (sp_refuses T 2) := by
  refine okN T.F_marks sc_marks (fun vs H Q E h => refuses_len h) (fun cdv A outer s H vs Q E hr h => ?_)
  obtain ⟨v, us, d, rfl, hl, hd, hn, q⟩ := h
  obtain ⟨x, y, rfl⟩ := l2 hl.symm
  refine ⟨_, (pss_cons (ps_set (i := 3) sc_marks.nd rfl (.inl rfl) (pe_call (ok_walk T) (hr.mono (by decide)) (by rfl) T.m_walk T.F_walk.kp T.b_walk .nil (L2N.passes_call (L2N.takes_of rfl rfl rfl rfl) fun _ _ _ _ h => h) (pa_cons (pv 0) (pa_cons (pv 1) (pa_cons (pv 2) pa_nil))))) pss_false), ?_⟩
  exact ⟨_, rfl, _, rfl, _, rfl, v, [x, y], d, rfl, rfl, hd, hn, fun H' s1 => q H' s1⟩
theorem ok__tried (T : Txt w K mg) : FnOk P w K mg base (L2N.CX P w) 5 T.f__tried T.fd__tried ["pattern", "text"] (sp_refuses T 1) := by
  refine okN T.F__tried sc__tried (fun vs H Q E h => refuses_len h) (fun cdv A outer s H vs Q E hr h => ?_)
  obtain ⟨v, us, d, rfl, hl, hd, hn, q⟩ := h
  obtain ⟨x, rfl⟩ := l1 hl.symm
  refine ⟨_, (pss_cons (ps_set (i := 2) sc__tried.nd rfl (.inl rfl) (pe_call (ok_numbers_ahead T) (hr.mono (by decide)) (by rfl) T.m_numbers_ahead T.F_numbers_ahead.kp T.b_numbers_ahead .nil pass0 (pa_cons (pe_call (ok_checked T) (hr.mono (by decide)) (by rfl) T.m_checked T.F_checked.kp T.b_checked .nil (L2N.passes_call (L2N.takes_of rfl rfl rfl rfl) fun _ _ _ _ h => h) (pa_cons (pv 0) pa_nil)) pa_nil))) pss_false), ?_⟩
  exact ⟨_, rfl, v, d, rfl, hd, fun z => absurd z hn, fun _ H' s1 => q H' s1⟩
theorem ok_first_way (T : Txt w K mg) : FnOk P w K mg base (L2N.CX P w) 6 T.f_first_way T.fd_first_way ["pattern", "text"] (sp_refuses T 1) := by
  refine okN T.F_first_way sc_first_way (fun vs H Q E h => refuses_len h) (fun cdv A outer s H vs Q E hr h => ?_)
  obtain ⟨v, us, d, rfl, hl, hd, hn, q⟩ := h
  obtain ⟨x, rfl⟩ := l1 hl.symm
  refine ⟨_, (pss_cons (ps_asg (pe_call (ok__tried T) (hr.mono (by decide)) (by rfl) T.m__tried T.F__tried.kp T.b__tried .nil (L2N.passes_call (L2N.takes_of rfl rfl rfl rfl) fun _ _ _ _ h => h) (pa_cons (pv 0) (pa_cons (pv 1) pa_nil))) (pg_tup rfl (pgs_cons (pg_name (i := 2) sc_first_way.nd rfl (.inl rfl)) (pgs_cons (pg_name (i := 3) sc_first_way.nd rfl (.inl rfl)) pgs_nil)))) pss_false), ?_⟩
  exact ⟨_, rfl, _, rfl, v, [x], d, rfl, rfl, hd, hn, fun H' s1 => q H' s1⟩
theorem ok_dead_ends (T : Txt w K mg) : FnOk P w K mg base (L2N.CX P w) 6 T.f_dead_ends T.fd_dead_ends ["pattern", "text"] (sp_refuses T 1) := by
  refine okN T.F_dead_ends sc_dead_ends (fun vs H Q E h => refuses_len h) (fun cdv A outer s H vs Q E hr h => ?_)
  obtain ⟨v, us, d, rfl, hl, hd, hn, q⟩ := h
  obtain ⟨x, rfl⟩ := l1 hl.symm
  refine ⟨_, (pss_cons (ps_asg (pe_call (ok__tried T) (hr.mono (by decide)) (by rfl) T.m__tried T.F__tried.kp T.b__tried .nil (L2N.passes_call (L2N.takes_of rfl rfl rfl rfl) fun _ _ _ _ h => h) (pa_cons (pv 0) (pa_cons (pv 1) pa_nil))) (pg_tup rfl (pgs_cons (pg_name (i := 2) sc_dead_ends.nd rfl (.inl rfl)) (pgs_cons (pg_name (i := 3) sc_dead_ends.nd rfl (.inl rfl)) pgs_nil)))) pss_false), ?_⟩
  exact ⟨_, rfl, _, rfl, v, [x], d, rfl, rfl, hd, hn, fun H' s1 => q H' s1⟩
theorem ok_fits (T : Txt w K mg) : FnOk P w K mg base (L2N.CX P w) 7 T.f_fits T.fd_fits ["pattern", "text"] (sp_refuses T 1) := by
  refine okN T.F_fits sc_fits (fun vs H Q E h => refuses_len h) (fun cdv A outer s H vs Q E hr h => ?_)
  obtain ⟨v, us, d, rfl, hl, hd, hn, q⟩ := h
  obtain ⟨x, rfl⟩ := l1 hl.symm
  refine ⟨_, (pss_cons (ps_ret (pe_cmpR op_notN (pe_call (ok_first_way T) (hr.mono (by decide)) (by rfl) T.m_first_way T.F_first_way.kp T.b_first_way .nil (L2N.passes_call (L2N.takes_of rfl rfl rfl rfl) fun _ _ _ _ h => h) (pa_cons (pv 0) (pa_cons (pv 1) pa_nil))) pe_non (nomark _))) pss_false), ?_⟩
  exact ⟨_, rfl, _, rfl, v, [x], d, rfl, rfl, hd, hn, fun H' s1 => q H' s1⟩
theorem ok_taken (T : Txt w K mg) : FnOk P w K mg base (L2N.CX P w) 7 T.f_taken T.fd_taken ["pattern", "text"] (sp_refuses T 1) := by
  refine okN T.F_taken sc_taken (fun vs H Q E h => refuses_len h) (fun cdv A outer s H vs Q E hr h => ?_)
  obtain ⟨v, us, d, rfl, hl, hd, hn, q⟩ := h
  obtain ⟨x, rfl⟩ := l1 hl.symm
  refine ⟨_, (pss_cons (ps_set (i := 2) sc_taken.nd rfl (.inl rfl) (pe_call (ok_first_way T) (hr.mono (by decide)) (by rfl) T.m_first_way T.F_first_way.kp T.b_first_way .nil (L2N.passes_call (L2N.takes_of rfl rfl rfl rfl) fun _ _ _ _ h => h) (pa_cons (pv 0) (pa_cons (pv 1) pa_nil)))) pss_false), ?_⟩
  exact ⟨_, rfl, _, rfl, v, [x], d, rfl, rfl, hd, hn, fun H' s1 => q H' s1⟩
/-- handed the right number of things of which the first is due to be refused -/
def sp_law_error (K : PySem.W.Frag) : Sp := fun vs H Q _ => ∃ (j : Int) (v : V) (g : Str) (d : Due), vs = [.int j, v, .str g] ∧ 0 ≤ j ∧ j < 6 ∧ DueIs K H v d ∧ d ≠ .none ∧ ∀ H' : Hp, Same H H' → Q (.str (dn d)) H'
def askI (n : Int) (te : TE) : L2.TS := tIfS (tTest (tOp rEq (tVar 0) (tC (.int n)))) (tDrop te) L2.tNext
theorem ok__law_error (T : Txt w K mg) : FnOk P w K mg base CX0 8 T.f__law_error T.fd__law_error ["_law_ask", "_law_pattern", "_law_sign_here"] (sp_law_error K) := by
  refine T.F__law_error.ok sc__law_error (fun vs H Q E h => ?_) (fun cdv A outer s H vs Q E hr h => ?_)
  · obtain ⟨j, v, g, d, rfl, _⟩ := h
    rfl
  obtain ⟨j, v, g, d, rfl, j0, j6, hd, hn, q⟩ := h
  have hr5 : Room 5 _ := hr.mono (by decide)
  have hr6 : Room 6 _ := hr.mono (by decide)
  have hr7 : Room 7 _ := hr.mono (by decide)
  have key : ∀ D : Ends, (∀ H', Same H H' → D.rt (.str (dn d)) H') → ∀ σ H', Same H H' → wMany K (fun _ _ _ _ => False) D [(.ref T.c_BadWay, fun _ _ _ => tRet (tC (.str "way"))), (.ref T.c_EmptyRound, fun _ _ _ => tRet (tC (.str "empty"))),
      (.ref T.c_TwiceNumbered, fun _ _ _ => tRet (tC (.str "twice"))), (.ref T.c_BadPattern, fun _ _ _ => tRet (tC (.str "bad")))] (.ref (T.cls d)) none σ H' := by
    intro D hD σ H' s1
    cases d with
    | none => exact absurd rfl hn
    | bad =>
      refine ⟨_, T.e_BadPattern_BadWay, (fun z => by cases z), fun _ => ?_⟩
      refine ⟨_, T.e_BadPattern_EmptyRound, (fun z => by cases z), fun _ => ?_⟩
      refine ⟨_, T.e_BadPattern_TwiceNumbered, (fun z => by cases z), fun _ => ?_⟩
      exact ⟨_, T.e_BadPattern_BadPattern, fun _ a na => hD H' s1, fun z => by cases z⟩
    | twice =>
      refine ⟨_, T.e_TwiceNumbered_BadWay, (fun z => by cases z), fun _ => ?_⟩
      refine ⟨_, T.e_TwiceNumbered_EmptyRound, (fun z => by cases z), fun _ => ?_⟩
      exact ⟨_, T.e_TwiceNumbered_TwiceNumbered, fun _ a na => hD H' s1, fun z => by cases z⟩
    | empty =>
      refine ⟨_, T.e_EmptyRound_BadWay, (fun z => by cases z), fun _ => ?_⟩
      exact ⟨_, T.e_EmptyRound_EmptyRound, fun _ a na => hD H' s1, fun z => by cases z⟩
  refine ⟨_, pss_cons (ps_try_many (Wout := fun _ _ _ _ => False)
    (tb := fun W => tSeq (askI 0 (tCallS (sp_refuses T 2) (WE W) (tCons (tVar 1) (tCons (tVar 2) (tCons (tLst (tCons (tC (.int 0)) tNil)) tNil)))))
      (tSeq (askI 1 (tCallS (sp_refuses T 2) (WE W) (tCons (tVar 1) (tCons (tVar 2) (tCons (tLst tNil) tNil)))))
      (tSeq (askI 2 (tCallS (sp_refuses T 1) (WE W) (tCons (tVar 1) (tCons (tVar 2) tNil))))
      (tSeq (askI 3 (tCallS (sp_refuses T 1) (WE W) (tCons (tVar 1) (tCons (tVar 2) tNil))))
      (tSeq (askI 4 (tCallS (sp_refuses T 1) (WE W) (tCons (tVar 1) (tCons (tC (.str "")) tNil))))
      (askI 5 (tCallS (sp_refuses T 1) (WE W) (tCons (tVar 1) (tCons (tVar 2) tNil)))))))))
    (l := [(.ref T.c_BadWay, fun _ _ _ => tRet (tC (.str "way"))), (.ref T.c_EmptyRound, fun _ _ _ => tRet (tC (.str "empty"))),
           (.ref T.c_TwiceNumbered, fun _ _ _ => tRet (tC (.str "twice"))), (.ref T.c_BadPattern, fun _ _ _ => tRet (tC (.str "bad")))]) rfl rfl takes0
    (fun W pn xe tk _ =>
      pss_cons (ps_if (pt_cmpR op_eq (pv 0) pe_int (nomark _)) (pss_one (ps_expr (pe_callS (fnX_of (ok_walk T)) hr5 (by rfl) T.m_walk T.F_walk.kp T.b_walk (fun σ => passAt tk σ) (by exact (pa_cons (pv 1) (pa_cons (pv 2) (pa_cons (pe_lst (pa_cons pe_int pa_nil)) pa_nil))))))) pss_nil)
      (pss_cons (ps_if (pt_cmpR op_eq (pv 0) pe_int (nomark _)) (pss_one (ps_expr (pe_callS (fnX_of (ok_marks T)) hr6 (by rfl) T.m_marks T.F_marks.kp T.b_marks (fun σ => passAt tk σ) (by exact (pa_cons (pv 1) (pa_cons (pv 2) (pa_cons (pe_lst pa_nil) pa_nil))))))) pss_nil)
      (pss_cons (ps_if (pt_cmpR op_eq (pv 0) pe_int (nomark _)) (pss_one (ps_expr (pe_callS (fnX_of (ok_first_way T)) hr6 (by rfl) T.m_first_way T.F_first_way.kp T.b_first_way (fun σ => passAt tk σ) (by exact (pa_cons (pv 1) (pa_cons (pv 2) pa_nil)))))) pss_nil)
      (pss_cons (ps_if (pt_cmpR op_eq (pv 0) pe_int (nomark _)) (pss_one (ps_expr (pe_callS (fnX_of (ok_dead_ends T)) hr6 (by rfl) T.m_dead_ends T.F_dead_ends.kp T.b_dead_ends (fun σ => passAt tk σ) (by exact (pa_cons (pv 1) (pa_cons (pv 2) pa_nil)))))) pss_nil)
      (pss_cons (ps_if (pt_cmpR op_eq (pv 0) pe_int (nomark _)) (pss_one (ps_expr (pe_callS (fnX_of (ok_fits T)) hr7 (by rfl) T.m_fits T.F_fits.kp T.b_fits (fun σ => passAt tk σ) (by exact (pa_cons (pv 1) (pa_cons pe_str pa_nil)))))) pss_nil)
      (pss_one (ps_if (pt_cmpR op_eq (pv 0) pe_int (nomark _)) (pss_one (ps_expr (pe_callS (fnX_of (ok_taken T)) hr7 (by rfl) T.m_taken T.F_taken.kp T.b_taken (fun σ => passAt tk σ) (by exact (pa_cons (pv 1) (pa_cons (pv 2) pa_nil)))))) pss_nil)))))))
    (.cons ⟨rfl, by decide, Or.inl T.g_BadWay⟩ (fun _ _ _ _ _ _ _ => pss_one (ps_ret pe_str))
    (.cons ⟨rfl, by decide, Or.inl T.g_EmptyRound⟩ (fun _ _ _ _ _ _ _ => pss_one (ps_ret pe_str))
    (.cons ⟨rfl, by decide, Or.inl T.g_TwiceNumbered⟩ (fun _ _ _ _ _ _ _ => pss_one (ps_ret pe_str))
    (.cons ⟨rfl, by decide, Or.inl T.g_BadPattern⟩ (fun _ _ _ _ _ _ _ => pss_one (ps_ret pe_str)) .nil))))) pss_false, ?_⟩
  have jv : ∀ n : Int, decide (V.int j = V.int n) = decide (j = n) := fun n => by
    rw [Bool.eq_iff_iff]
    simp
  refine ⟨_, rfl, rfl, _, rfl, ?_⟩
  rw [jv]
  refine ite2 (fun c => ?_) (fun c0 => e_nx ?_)
  · refine ⟨_, rfl, _, rfl, sz (by show 1 ≤ 10000; decide), fun l nl => ?_⟩
    have s1 := same_new (o := .lst [.int 0]) nl
    exact ⟨v, _, d, rfl, rfl, hd.mono (TL.of s1), hn, fun H' s2 => key _ (fun H' s => q H' s) _ H' (s1.trans s2)⟩
  refine ⟨_, rfl, rfl, _, rfl, ?_⟩
  rw [jv]
  refine ite2 (fun c => ?_) (fun c1 => e_nx ?_)
  · refine ⟨_, rfl, _, rfl, Nat.zero_le _, fun l nl => ?_⟩
    have s1 := same_new (o := .lst []) nl
    exact ⟨v, _, d, rfl, rfl, hd.mono (TL.of s1), hn, fun H' s2 => key _ (fun H' s => q H' s) _ H' (s1.trans s2)⟩
  refine ⟨_, rfl, rfl, _, rfl, ?_⟩
  rw [jv]
  refine ite2 (fun c => ?_) (fun c2 => e_nx ?_)
  · exact ⟨_, rfl, _, rfl, v, _, d, rfl, rfl, hd, hn, fun H' s2 => key _ (fun H' s => q H' s) _ H' s2⟩
  refine ⟨_, rfl, rfl, _, rfl, ?_⟩
  rw [jv]
  refine ite2 (fun c => ?_) (fun c3 => e_nx ?_)
  · exact ⟨_, rfl, _, rfl, v, _, d, rfl, rfl, hd, hn, fun H' s2 => key _ (fun H' s => q H' s) _ H' s2⟩
  refine ⟨_, rfl, rfl, _, rfl, ?_⟩
  rw [jv]
  refine ite2 (fun c => ?_) (fun c4 => e_nx ?_)
  · exact ⟨_, rfl, v, _, d, rfl, rfl, hd, hn, fun H' s2 => key _ (fun H' s => q H' s) _ H' s2⟩
  refine ⟨_, rfl, rfl, _, rfl, ?_⟩
  rw [jv]
  refine ite2 (fun c => ?_) (fun c5 => ?_)
  · exact ⟨_, rfl, _, rfl, v, _, d, rfl, rfl, hd, hn, fun H' s2 => key _ (fun H' s => q H' s) _ H' s2⟩
  have n0 := of_decide_eq_false (Bool.eq_false_iff.mpr c0)
  have n1 := of_decide_eq_false (Bool.eq_false_iff.mpr c1)
  have n2 := of_decide_eq_false (Bool.eq_false_iff.mpr c2)
  have n3 := of_decide_eq_false (Bool.eq_false_iff.mpr c3)
  have n4 := of_decide_eq_false (Bool.eq_false_iff.mpr c4)
  have n5 := of_decide_eq_false (Bool.eq_false_iff.mpr c5)
  exact absurd j6 (by omega)

end
end G1

set_option maxRecDepth 100000
set_option maxHeartbeats 4000000
namespace G1
open PySem PySem.Spec PyProof.Rows L2 Gm
section
variable {P : Program} {w : World} {K : PySem.W.Frag} {mg : Str → Option Value} {base : Heap}
theorem dep_siz : ∀ p : Pat, dep p ≤ siz p
  | .sign _ => Nat.le_refl _
  | .any => Nat.le_refl _
  | .none => Nat.le_refl _
  | .row p q => by
    have h1 := dep_siz p
    have h2 := dep_siz q
    rw [siz_row]
    simp only [dep]
    omega
  | .or p q => by
    have h1 := dep_siz p
    have h2 := dep_siz q
    rw [siz_or]
    simp only [dep]
    omega
  | .more p => by
    have h1 := dep_siz p
    rw [siz_more]
    simp only [dep]
    omega
  | .less p => by
    have h1 := dep_siz p
    rw [siz_less]
    simp only [dep]
    omega
  | .group n p => by
    have h1 := dep_siz p
    rw [siz_group]
    simp only [dep]
    omega
/-- the things and what is due -/
structure Fit (D : Due) (ts : List PT) : Prop where
  l1 : 1 ≤ ts.length
  l5 : ts.length ≤ 5
  sz : tszs ts ≤ 400
  bad : ts.any thas = true ↔ D = .bad
  tw : D = .twice → ¬ (ts.flatMap tnums).Nodup
  nd : D = .none ∨ D = .empty → (ts.flatMap tnums).Nodup ∧ ∀ n ∈ ts.flatMap tnums, 2000000000 < n
  em : D = .empty → ts.any ter = true
  no : D = .none → ts.any ter = false ∧ ts.length = 1 ∧ tszs ts ≤ 60
theorem Fit.perm {D : Due} {ts us : List PT} (f : Fit D ts) (p : ts.Perm us) : Fit D us := by
  have an : ∀ g : PT → Bool, us.any g = ts.any g := fun g => by
    rw [Bool.eq_iff_iff, List.any_eq_true, List.any_eq_true]
    exact ⟨fun ⟨x, hx, e⟩ => ⟨x, p.mem_iff.mpr hx, e⟩, fun ⟨x, hx, e⟩ => ⟨x, p.mem_iff.mp hx, e⟩⟩
  have pf : (ts.flatMap tnums).Perm (us.flatMap tnums) := p.flatMap_right _
  have zz : tszs us = tszs ts := ((p.map tsz).sum_nat).symm
  refine ⟨by rw [← p.length_eq]; exact f.l1, by rw [← p.length_eq]; exact f.l5, ?_, by rw [an]; exact f.bad, fun e => ?_, fun e => ?_, by rw [an]; exact f.em, by rw [an, zz, ← p.length_eq]; exact f.no⟩
  · rw [zz]
    exact f.sz
  · rw [← pf.nodup_iff]
    exact f.tw e
  · obtain ⟨h1, h2⟩ := f.nd e
    exact ⟨pf.nodup_iff.mp h1, fun n hn => h2 n (pf.mem_iff.mpr hn)⟩
theorem tszs_snoc (ts : List PT) (t : PT) : tszs (ts ++ [t]) = tszs ts + tsz t := by
  rw [tszs_app]
  simp [tszs]
theorem Fit.one {p : Pat} {k : Nat} (m : Made 2000000000 k p) (hk : k ≤ 8) : Fit .none [.ok p] := by
  have h1 := m.sz
  have e : [PT.ok p].flatMap tnums = nums (subs p) := by simp [tnums]
  refine ⟨by simp, by simp, ?_, ?_, (fun e => by cases e), fun _ => ?_, (fun e => by cases e), fun _ => ?_⟩
  · show tsz (.ok p) + 0 ≤ 400
    show siz p + 0 ≤ 400
    omega
  · simp [thas]
  · rw [e]
    exact ⟨m.nd, fun n hn => (m.rg n hn).1⟩
  · refine ⟨?_, rfl, ?_⟩
    · show (er1 p || false) = false
      rw [m.er]
      rfl
    · show siz p + 0 ≤ 60
      omega
theorem Fit.two {p q : Pat} {k : Nat} (m : Made 2000000000 k p) (hk : k ≤ 8) (e : MadeE q) : Fit .empty [.ok p, .ok q] := by
  have h1 := m.sz
  have h2 := e.sz
  have ef : [PT.ok p, PT.ok q].flatMap tnums = nums (subs p) ++ nums (subs q) := by simp [tnums]
  refine ⟨by simp, by simp, ?_, ?_, (fun e => by cases e), fun _ => ?_, fun _ => ?_, (fun e => by cases e)⟩
  · show siz p + (siz q + 0) ≤ 400
    omega
  · simp [thas]
  · rw [ef]
    refine ⟨?_, fun n hn => ?_⟩
    · rw [List.nodup_append]
      refine ⟨m.nd, e.nd, fun a ha b hb z => ?_⟩
      have q1 := (m.rg a ha).2
      have q2 := (e.rg b hb).1
      omega
    · rcases List.mem_append.mp hn with z | z
      · exact (m.rg n z).1
      · have := (e.rg n z).1
        omega
  · show (er1 p || (er1 q || false)) = true
    rw [e.er]
    simp
theorem dup_of {A B : List Int} {n : Int} (h : [n, n].Sublist B) : ¬ (A ++ B).Nodup := fun hn => by
  have h1 := (List.nodup_append.mp hn).2.1
  have h2 := h1.sublist h
  simp at h2
/-- one group of a number, and in it another one -/
theorem Fit.twice {D : Due} {ts : List PT} {p : Pat} {n : Int} (f : Fit D ts) (hD : D ≠ .bad) (l : ts.length ≤ 2) (hs : siz p ≤ 10) (hz : tszs ts ≤ 200) (hn : [n, n].Sublist (nums (subs p))) : Fit .twice (ts ++ [.ok p]) := by
  have hb : ts.any thas = false := Bool.eq_false_iff.mpr fun h => hD (f.bad.mp h)
  refine ⟨by simp, by rw [List.length_append]; simp; omega, ?_, ?_, fun _ => ?_, fun e => ?_, (fun e => by cases e), (fun e => by cases e)⟩
  · rw [tszs_snoc]
    show _ + siz p ≤ _
    omega
  · rw [List.any_append, hb]
    simp [thas]
  · rw [List.flatMap_append]
    refine dup_of (n := n) ?_
    simpa [tnums] using hn
  · rcases e with e | e <;> cases e
theorem Fit.twice2 {D : Due} {ts : List PT} {p q : Pat} {n : Int} (f : Fit D ts) (hD : D ≠ .bad) (l : ts.length ≤ 2) (hs : siz p ≤ 10) (hs2 : siz q ≤ 10) (hz : tszs ts ≤ 200) (hn : [n, n].Sublist (nums (subs p) ++ nums (subs q))) : Fit .twice (ts ++ [.ok p] ++ [.ok q]) := by
  have hb : ts.any thas = false := Bool.eq_false_iff.mpr fun h => hD (f.bad.mp h)
  refine ⟨by simp, by rw [List.length_append, List.length_append]; simp; omega, ?_, ?_, fun _ => ?_, fun e => ?_, (fun e => by cases e), (fun e => by cases e)⟩
  · rw [tszs_snoc, tszs_snoc]
    show _ + siz p + siz q ≤ _
    omega
  · rw [List.any_append, List.any_append, hb]
    simp [thas]
  · rw [List.append_assoc, List.flatMap_append]
    refine dup_of (n := n) ?_
    simpa [tnums] using hn
  · rcases e with e | e <;> cases e
theorem Fit.badly {D : Due} {ts : List PT} (f : Fit D ts) (l : ts.length ≤ 4) (hz : tszs ts ≤ 300) : Fit .bad (ts ++ [.bad]) := by
  refine ⟨by simp, by rw [List.length_append]; simp; omega, ?_, ?_, (fun e => by cases e), fun e => ?_, (fun e => by cases e), (fun e => by cases e)⟩
  · rw [tszs_snoc]
    show _ + 1 ≤ _
    omega
  · rw [List.any_append]
    simp [thas]
  · rcases e with e | e <;> cases e
theorem due_of {H : Hp} {D : Due} {ts : List PT} {t : PT} {v : V} (f : Fit D ts) (j : JRes ts (ts.length - 1) t) (u : TAt K H t v) : DueIs K H v D := by
  have z : tsz t ≤ 1000 := by
    have h1 := j.sz
    have h2 := f.sz
    have h3 := f.l5
    omega
  obtain ⟨G, g1, g2, g3⟩ := j.nm
  by_cases hb : D = .bad
  · subst hb
    exact ⟨t, u, by rw [j.has]; exact f.bad.mpr rfl, z⟩
  have ht : thas t = false := by
    rw [j.has]
    exact Bool.eq_false_iff.mpr fun h => hb (f.bad.mp h)
  obtain ⟨p, up, zp, mp, ep, _⟩ := TAt_pat u ht
  have nd : D = .none ∨ D = .empty → (nums (subs p)).Nodup := fun e => by
    obtain ⟨h1, h2⟩ := f.nd e
    rw [mp, g3.nodup_iff, List.nodup_append]
    refine ⟨g1, h1, fun a ha b hb z => ?_⟩
    have q1 := (g2 a ha).2
    have q2 := h2 b hb
    have := f.l5
    omega
  have e1 : (erl (subs p)).any id = ts.any ter := ep.trans j.er
  cases D with
  | none => exact ⟨p, up, by omega, nd (.inl rfl), by rw [e1]; exact (f.no rfl).1⟩
  | bad => exact absurd rfl hb
  | twice =>
    refine ⟨p, up, by omega, fun h => f.tw rfl ?_⟩
    rw [mp, g3.nodup_iff, List.nodup_append] at h
    exact h.2.1
  | empty => exact ⟨p, up, by omega, nd (.inr rfl), by rw [e1]; exact f.em rfl⟩
theorem rot_perm {α : Type} (ts : List α) (c : Nat) : ts.Perm (ts.drop c ++ ts.take c) := by
  refine List.Perm.trans ?_ List.perm_append_comm
  rw [List.take_append_drop]

end
end G1

set_option maxRecDepth 100000
set_option maxHeartbeats 4000000
namespace G1
open PySem PySem.Spec PyProof.Rows L2 Gm
section
variable {P : Program} {w : World} {K : PySem.W.Frag} {mg : Str → Option Value} {base : Heap}
theorem cut_int (ns : List Int) (i j : Nat) : ∃ ns' : List Int, cutV (ns.map V.int) (some (i : Int)) (some (j : Int)) = ns'.map V.int ∧ ns'.length ≤ j - i := by
  unfold cutV
  rw [HT.sIx_nat, HT.sIx_nat]
  refine ⟨(ns.drop (min i (ns.map V.int).length)).take (min j (ns.map V.int).length - min i (ns.map V.int).length), ?_, ?_⟩
  · rw [List.map_take, List.map_drop]
  · rw [List.length_take]
    omega
theorem cut_from (vs : List V) (c : Nat) : cutV vs (some (c : Int)) none = vs.drop c := by
  unfold cutV
  rw [HT.sIx_nat, HT.sIx_none]
  by_cases h : c ≤ vs.length
  · rw [Nat.min_eq_left h]
    exact List.take_of_length_le (by rw [List.length_drop]; exact Nat.le_refl _)
  · rw [Nat.min_eq_right (by omega), List.drop_of_length_le (Nat.le_refl _), List.drop_of_length_le (by omega), List.take_nil]
theorem cut_to (vs : List V) (c : Nat) : cutV vs none (some (c : Int)) = vs.take c := by
  unfold cutV
  rw [HT.sIx_nat, HT.sIx_none]
  rw [List.drop_zero, Nat.sub_zero]
  by_cases h : c ≤ vs.length
  · rw [Nat.min_eq_left h]
  · rw [Nat.min_eq_right (by omega), List.take_of_length_le (Nat.le_refl _), List.take_of_length_le (by omega)]
theorem Paired.drop' {α β : Type} {F : α → β → Prop} : ∀ {l₁ : List α} {l₂ : List β} (c : Nat), Paired F l₁ l₂ → Paired F (l₁.drop c) (l₂.drop c)
  | _, _, 0, h => h
  | _, _, _ + 1, .nil => .nil
  | _, _, c + 1, .cons _ t => Paired.drop' c t
theorem Paired.take' {α β : Type} {F : α → β → Prop} : ∀ {l₁ : List α} {l₂ : List β} (c : Nat), Paired F l₁ l₂ → Paired F (l₁.take c) (l₂.take c)
  | _, _, 0, _ => by rw [List.take_zero, List.take_zero]; exact .nil
  | _, _, _ + 1, .nil => .nil
  | _, _, c + 1, .cons a t => .cons a (Paired.take' c t)
theorem tyx_tup {H : Hp} {a : Addr} {xs : List V} (h : SqT K H a xs) : TyX K H (.ref a) (.type "tuple") := by
  rcases h with (h | ⟨o, h⟩) | ⟨o, its, n, h, c, _⟩
  · exact .base (.tup h)
  · exact .fTuple h
  · exact .kTuple h c
def spLaw (K : PySem.W.Frag) : Sp := fun vs H Q _ => ∃ (a : Addr) (ns : List Int), vs = [.ref a] ∧ SqL K H a (ns.map V.int) ∧ ns.length ≤ 63 ∧ ∀ H', Q (.bl true) H'
theorem ok_law (T : Txt w K mg) : FnOk P w K mg base CX0 9 T.f_law T.fd_law ["_law_script"] (spLaw K) := by
  refine T.F_law.ok sc_law (fun vs H Q E h => ?_) (fun cdv A outer s H vs Q E hr h => ?_)
  · obtain ⟨a, ns, rfl, _⟩ := h
    rfl
  obtain ⟨a, ns, rfl, ha, h63, q⟩ := h
  refine ⟨_, (pss_cons (ps_set (i := 1) sc_law.nd rfl (.inl rfl) (pe_call (ok__law_cell_at T) (hr.mono (by decide)) (by rfl) T.m__law_cell_at T.F__law_cell_at.kp T.b__law_cell_at .nil pass0 (pa_cons (pv 0) (pa_cons pe_int pa_nil))))
  (pss_cons (ps_set (i := 2) sc_law.nd rfl (.inl rfl) (pe_call (ok__law_sign T) (hr.mono (by decide)) (by rfl) T.m__law_sign T.F__law_sign.kp T.b__law_sign .nil pass0 (pa_cons (pe_call (ok__law_cell_at T) (hr.mono (by decide)) (by rfl) T.m__law_cell_at T.F__law_cell_at.kp T.b__law_cell_at .nil pass0 (pa_cons (pv 0) (pa_cons pe_int pa_nil))) pa_nil)))
  (pss_cons (ps_set (i := 3) sc_law.nd rfl (.inl rfl) (pe_op op_add pe_int (pe_op op_mod (pe_call (ok__law_cell_at T) (hr.mono (by decide)) (by rfl) T.m__law_cell_at T.F__law_cell_at.kp T.b__law_cell_at .nil pass0 (pa_cons (pv 0) (pa_cons pe_int pa_nil))) (pe_op op_pow pe_int pe_int))))
  (pss_cons (ps_set (i := 4) sc_law.nd rfl (.inl rfl) (pe_lst (pa_cons (pe_ix ix_tup (pe_call (ok__law_made T) (hr.mono (by decide)) (by rfl) T.m__law_made T.F__law_made.kp T.b__law_made .nil pass0 (pa_cons (pe_slice sl_list (pv 0) (po_some pe_int) (po_some pe_int)) (pa_cons (pv 2) (pa_cons (pe_op op_mul pe_int (pe_op op_pow pe_int pe_int)) pa_nil)))) pe_int (fun _ _ => rfl)) pa_nil)))
  (pss_cons (ps_set (i := 5) sc_law.nd rfl (.inl rfl) pe_str)
  (C8.pss_cut (ps_if (pt_cmpR op_eq (pe_op op_mod (pe_op op_fdiv (pv 1) pe_int) pe_int) pe_int (nomark _))
    (pss_cons (ps_expr (pe_bm PySem.F.plainAttrs_list PySem.F.slot_list_append PySem.F.type_list_append mt_append (pv 4) (pa_cons (pe_call (ok__law_empty T) (hr.mono (by decide)) (by rfl) T.m__law_empty T.F__law_empty.kp T.b__law_empty .nil pass0 (pa_cons (pe_slice sl_list (pv 0) (po_some pe_int) (po_some pe_int)) (pa_cons (pe_call (ok__law_cell_at T) (hr.mono (by decide)) (by rfl) T.m__law_cell_at T.F__law_cell_at.kp T.b__law_cell_at .nil pass0 (pa_cons (pv 0) (pa_cons pe_int pa_nil))) (pa_cons (pv 2) pa_nil)))) pa_nil)))
  (pss_one (ps_set (i := 5) sc_law.nd rfl (.inl rfl) pe_str)))
    pss_nil)
  (C8.pss_cut (ps_if (pt_cmpR op_eq (pe_op op_mod (pe_op op_fdiv (pv 1) pe_int) pe_int) pe_int (nomark _))
    (pss_cons (ps_set (i := 6) sc_law.nd rfl (.inl rfl) (pe_lst (pa_cons (pe_tup (pa_cons pe_str pa_nil)) (pa_cons (pe_tup (pa_cons pe_str (pa_cons (pv 3) (pa_cons (pe_tup (pa_cons pe_str pa_nil)) pa_nil)))) (pa_cons (pe_tup (pa_cons pe_str (pa_cons (pe_tup (pa_cons pe_str (pa_cons (pv 3) (pa_cons (pe_tup (pa_cons pe_str pa_nil)) pa_nil)))) pa_nil))) pa_nil)))))
  (pss_cons (ps_expr (pe_bm PySem.F.plainAttrs_list PySem.F.slot_list_append PySem.F.type_list_append mt_append (pv 4) (pa_cons (pe_tup (pa_cons pe_str (pa_cons (pv 3) (pa_cons (pe_ix ix_list (pv 6) (pe_op op_mod (pe_op op_fdiv (pv 1) pe_int) pe_int) (fun _ _ => rfl)) pa_nil)))) pa_nil)))
  (pss_cons (ps_if (pt_cmpR op_eq (pe_op op_mod (pe_op op_fdiv (pv 1) pe_int) pe_int) pe_int (nomark _))
    (pss_one (ps_expr (pe_bm PySem.F.plainAttrs_list PySem.F.slot_list_append PySem.F.type_list_append mt_append (pv 4) (pa_cons (pe_tup (pa_cons pe_str (pa_cons (pe_tup (pa_cons pe_str (pa_cons (pv 3) (pa_cons (pe_tup (pa_cons pe_str (pa_cons (pv 2) pa_nil))) pa_nil)))) (pa_cons (pe_tup (pa_cons pe_str pa_nil)) pa_nil)))) pa_nil))))
    pss_nil)
  (pss_one (ps_set (i := 5) sc_law.nd rfl (.inl rfl) pe_str)))))
    pss_nil)
  (C8.pss_cut (ps_if (pt_cmpR op_eq (pe_op op_mod (pv 1) pe_int) pe_int (nomark _))
    (pss_cons (ps_expr (pe_bm PySem.F.plainAttrs_list PySem.F.slot_list_append PySem.F.type_list_append mt_append (pv 4) (pa_cons (pe_call (ok__law_bad T) (hr.mono (by decide)) (by rfl) T.m__law_bad T.F__law_bad.kp T.b__law_bad .nil pass0 (pa_cons (pe_call (ok__law_cell_at T) (hr.mono (by decide)) (by rfl) T.m__law_cell_at T.F__law_cell_at.kp T.b__law_cell_at .nil pass0 (pa_cons (pv 0) (pa_cons pe_int pa_nil))) (pa_cons (pv 2) pa_nil))) pa_nil)))
  (pss_one (ps_set (i := 5) sc_law.nd rfl (.inl rfl) pe_str)))
    pss_nil)
  (pss_cons (ps_set (i := 7) sc_law.nd rfl (.inl rfl) (pe_op op_mod (pe_op op_fdiv (pv 1) pe_int) (pe_callB call_len_seq (by rfl) T.n_len PySem.boot_len (pa_cons (pv 4) pa_nil))))
  (pss_cons (ps_set (i := 8) sc_law.nd rfl (.inl rfl) (pe_call (ok__law_joined T) (hr.mono (by decide)) (by rfl) T.m__law_joined T.F__law_joined.kp T.b__law_joined .nil pass0 (pa_cons (pe_op op_cat (pe_slice sl_list (pv 4) (po_some (pv 7)) po_none) (pe_slice sl_list (pv 4) po_none (po_some (pv 7)))) (pa_cons (pe_op op_mod (pe_call (ok__law_cell_at T) (hr.mono (by decide)) (by rfl) T.m__law_cell_at T.F__law_cell_at.kp T.b__law_cell_at .nil pass0 (pa_cons (pv 0) (pa_cons pe_int pa_nil))) (pe_op op_pow pe_int pe_int)) pa_nil))))
  (pss_cons (ps_set (i := 9) sc_law.nd rfl (.inl rfl) (pe_call (ok__law_checked T) (hr.mono (by decide)) (by rfl) T.m__law_checked T.F__law_checked.kp T.b__law_checked .nil pass0 (pa_cons (pv 8) pa_nil)))
  (pss_cons (ps_if (pt_cmpR op_ne (pe_ix ix_tup (pv 9) pe_int (fun _ _ => rfl)) (pv 5) (nomark _))
    (pss_one (ps_ret pe_bl))
    pss_nil)
  (pss_cons (ps_if (pt_cmpR op_eq (pv 5) pe_str (nomark _))
    (pss_one (ps_ret (pe_and (pe_callB call_isi (by rfl) T.n_isinstance (by decide +kernel) (pa_cons (pe_ix ix_tup (pv 9) pe_int (fun _ _ => rfl)) (pa_cons (pe_bltn (v := .ty "tuple") (by rfl) T.n_tuple (by decide +kernel) rfl) pa_nil))) (pe_one (pe_cmpR (op_eqD hr.units) (pe_ix ix_tup (pv 9) pe_int (fun _ _ => rfl)) (pv 8) (nomark _))))))
    pss_nil)
  (pss_one (ps_ret (pe_and (pe_cmpR op_eq (pe_call (ok__law_error T) (hr.mono (by decide)) (by rfl) T.m__law_error T.F__law_error.kp T.b__law_error .nil pass0 (pa_cons (pe_op op_mod (pe_call (ok__law_cell_at T) (hr.mono (by decide)) (by rfl) T.m__law_cell_at T.F__law_cell_at.kp T.b__law_cell_at .nil pass0 (pa_cons (pv 0) (pa_cons pe_int pa_nil))) pe_int) (pa_cons (pv 8) (pa_cons (pv 2) pa_nil)))) (pv 5) (nomark _)) (pe_one (pe_call (ok__law_refused T) (hr.mono (by decide)) (by rfl) T.m__law_refused T.F__law_refused.kp T.b__law_refused .nil pass0 (pa_cons (pv 8) (pa_cons (pv 5) pa_nil)))))))))))))))))))), ?_⟩
  refine ⟨_, rfl, a, ns, 0, rfl, ha, ?_⟩
  refine ⟨_, rfl, a, ns, 1, rfl, ha, _, rfl, ?_⟩
  refine ⟨_, rfl, a, ns, 2, rfl, ha, _, _, rfl, rfl, ⟨by decide, by decide, by decide⟩, _, _, rfl, rfl, (by show (0 : Int) < 10 ^ (9 : Int).toNat; rw [pow9]; decide), _, _, rfl, rfl, ?_⟩
  rw [pow9]
  have num0 := Int.emod_nonneg (cellAt ns 2) (show (1000000000 : Int) ≠ 0 by decide)
  generalize cellAt ns 2 % 1000000000 = num at num0 ⊢
  generalize cellAt ns 0 = f
  have hg := lsg_lt (cellAt ns 1)
  generalize lsg (cellAt ns 1) = g at hg ⊢
  obtain ⟨ns1, e1, z1⟩ := cut_int ns 7 15
  refine ⟨_, rfl, _, rfl, _, rfl, a, _, rfl, ha, fun l1 n1 => ?_⟩
  have s1 := same_new (o := .lst (cutV (ns.map V.int) (some 7) (some 15))) n1
  refine ⟨_, rfl, _, _, rfl, rfl, ⟨by decide, by decide, by decide⟩, _, _, rfl, rfl, cmul9 2 (by decide), l1, ns1, g, _, rfl, ?_, by omega, by rw [pow9]; decide, hg, fun v p H1 s2 u m => ?_⟩
  · rw [← e1]
    exact SqL.of upd_same
  rw [pow9, show (2 : Int) * 1000000000 = 2000000000 from by decide] at m
  obtain ⟨t, x, rfl, ht, ux⟩ := u
  refine ⟨_, _, _, _, rfl, rfl, ht, at0 rfl, sz (by show 1 ≤ 10000; decide), fun l nl => ?_⟩
  have s3 := s1.trans s2
  have s4 := s3.trans (same_new (o := .lst [x]) nl)
  have nl0 : H l = none := s3.free nl
  refine ⟨fun σ' H' => ∃ (D : Due) (ts : List PT) (ws : List V), σ' = [some (.ref a), some (.int f), some (.str ⟨#[g]⟩), some (.int (1 + num)), some (.ref l), some (.str (dn D)), none, none, none, none] ∧ Same H H' ∧ H' l = some (.lst ws) ∧ Paired (TAt K H') ts ws ∧
    Fit D ts ∧ D ≠ .bad ∧ ts.length ≤ 2 ∧ tszs ts ≤ 200, ?_, ?_⟩
  · refine ⟨_, rfl, _, _, rfl, rfl, ⟨by decide, by decide⟩, _, _, rfl, rfl, (by show (0 : Int) < 2; decide), rfl, _, rfl, ?_⟩
    refine ite2 (fun c => ?_) (fun c => ?_)
    · obtain ⟨ns2, e2, z2⟩ := cut_int ns 15 23
      refine ⟨_, rfl, .inl ⟨rfl, _, SqL.of upd_same⟩, _, rfl, _, rfl, _, rfl, a, _, rfl, s4.seq ha, fun l2 n2 => ?_⟩
      have s5 := s4.trans (same_new (o := .lst (cutV (ns.map V.int) (some 15) (some 23))) n2)
      refine ⟨_, rfl, a, ns, 3, rfl, s5.seq ha, _, rfl, l2, ns2, _, g, rfl, ?_, by omega, hg, fun v2 p2 H2 s6 u2 m2 => ?_⟩
      · rw [← e2]
        exact SqL.of upd_same
      have s56 := (same_new (o := .lst (cutV (ns.map V.int) (some 15) (some 23))) n2).trans s6
      have hl2 := s56 _ _ (upd_same (H := H1) (a := l) (o := .lst [x]))
      have ux2 := ux.mono (TS.of ((same_new (o := .lst [x]) nl).trans s56))
      refine ⟨l, _, v2, rfl, rfl, hl2, szl (by show 1 ≤ 10000; decide), ?_⟩
      have tl := TL.lst (K := K) (ys := [x] ++ [v2]) hl2
      refine ⟨.empty, [.ok p, .ok p2], _, rfl, Same.mut (s5.trans s6) nl0, upd_same, .cons (.ok (ux2.mono tl.ts)) (.cons (.ok (u2.mono tl.ts)) .nil), Fit.two m z1 m2, (by intro e; cases e), by show 2 ≤ 2; decide, ?_⟩
      have q1 := m.sz
      have q2 := m2.sz
      show siz p + (siz p2 + 0) ≤ 200
      omega
    · refine ⟨.none, [.ok p], [x], rfl, s4, upd_same, .cons (.ok (ux.mono (TS.new nl))) .nil, Fit.one m z1, (by intro e; cases e), by show 1 ≤ 2; decide, ?_⟩
      have q1 := m.sz
      show siz p + 0 ≤ 200
      omega
  rintro σ' H2 ⟨D, ts, ws, rfl, sA, hl, pv, ft, nb, lt, zt⟩
  have lw : ts.length = ws.length := Paired.length pv
  refine ⟨fun σ' H' => ∃ (D : Due) (ts : List PT) (ws : List V) (x6 : Option V), σ' = [some (.ref a), some (.int f), some (.str ⟨#[g]⟩), some (.int (1 + num)), some (.ref l), some (.str (dn D)), x6, none, none, none] ∧ Same H H' ∧ H' l = some (.lst ws) ∧ Paired (TAt K H') ts ws ∧
    Fit D ts ∧ ts.length ≤ 4 ∧ tszs ts ≤ 300, ?_, ?_⟩
  · refine ⟨_, rfl, _, _, rfl, rfl, ⟨by decide, by decide⟩, _, _, rfl, rfl, (by show (0 : Int) < 2; decide), rfl, _, rfl, ?_⟩
    refine ite2 (fun c => ?_) (fun c => ⟨D, ts, ws, none, rfl, sA, hl, pv, ft, by omega, by omega⟩)
    have one3 : (3 : Nat) ≤ 10000 := by decide
    refine ⟨sz (by show 1 ≤ 10000; decide), fun t1 m1 => ⟨_, rfl, sz (by show 1 ≤ 10000; decide), fun t2 m2 => ⟨sz one3, fun t3 m3 => ⟨_, rfl, sz (by show 1 ≤ 10000; decide), fun t4 m4 => ⟨sz one3, fun t5 m5 => ⟨sz (by show 2 ≤ 10000; decide), fun t6 m6 => ⟨sz one3, fun l3 m7 => ?_⟩⟩⟩⟩⟩⟩⟩
    have sa := same_new (o := .tup [.str "any"]) m1
    have sb := same_new (o := .tup [.str "none"]) m2
    have sc := same_new (o := .tup [.str "group", .int (1 + num), .ref t2]) m3
    have sd := same_new (o := .tup [.str "any"]) m4
    have se := same_new (o := .tup [.str "group", .int (1 + num), .ref t4]) m5
    have sf := same_new (o := .tup [.str "more", .ref t5]) m6
    have sg := same_new (o := .lst [.ref t1, .ref t3, .ref t6]) m7
    have c3 := sf.trans sg
    have c2 := ((sd.trans se).trans c3)
    have all := (sa.trans (sb.trans (sc.trans c2)))
    have k0 := Int.emod_nonneg (f / 8) (show (3 : Int) ≠ 0 by decide)
    have k1 := Int.emod_lt_of_pos (f / 8) (show (0 : Int) < 3 by decide)
    have w : ∃ (y : V) (p2 : Pat), atI [V.ref t1, .ref t3, .ref t6] (f / 8 % 3) = some y ∧ PAt K (upd (upd (upd (upd (upd (upd (upd H2 t1 (.tup [.str "any"])) t2 (.tup [.str "none"])) t3 (.tup [.str "group", .int (1 + num), .ref t2])) t4 (.tup [.str "any"])) t5 (.tup [.str "group", .int (1 + num), .ref t4])) t6 (.tup [.str "more", .ref t5])) l3 (.lst [.ref t1, .ref t3, .ref t6])) p2 y ∧
        siz p2 ≤ 4 ∧ (f / 8 % 3 = 0 ∧ nums (subs p2) = [] ∨ f / 8 % 3 ≠ 0 ∧ nums (subs p2) = [1 + num]) := by
      by_cases e0 : f / 8 % 3 = 0
      · exact ⟨.ref t1, .any, by rw [e0]; exact at0 rfl, ⟨t1, rfl, TS.of (sb.trans (sc.trans c2)) _ _ (SqT.of upd_same)⟩, by decide, .inl ⟨e0, rfl⟩⟩
      by_cases e1 : f / 8 % 3 = 1
      · exact ⟨.ref t3, .group (1 + num) .none, by rw [e1]; exact at1 rfl, ⟨t3, .ref t2, rfl, by omega, TS.of c2 _ _ (SqT.of upd_same), ⟨t2, rfl, TS.of (sc.trans c2) _ _ (SqT.of upd_same)⟩⟩, (by show 2 ≤ 4; decide), .inr ⟨e0, rfl⟩⟩
      · have e2 : f / 8 % 3 = 2 := by omega
        exact ⟨.ref t6, .more (.group (1 + num) .any), by rw [e2]; exact at2 rfl, ⟨t6, .ref t5, rfl, TS.of sg _ _ (SqT.of upd_same), ⟨t5, .ref t4, rfl, by omega, TS.of c3 _ _ (SqT.of upd_same), ⟨t4, rfl, TS.of (se.trans c3) _ _ (SqT.of upd_same)⟩⟩⟩, (by show 3 ≤ 4; decide), .inr ⟨e0, rfl⟩⟩
    obtain ⟨y, p2, ey, uy, zy, ny⟩ := w
    generalize hHa : upd (upd (upd (upd (upd (upd (upd H2 t1 (.tup [.str "any"])) t2 (.tup [.str "none"])) t3 (.tup [.str "group", .int (1 + num), .ref t2])) t4 (.tup [.str "any"])) t5 (.tup [.str "group", .int (1 + num), .ref t4])) t6 (.tup [.str "more", .ref t5])) l3 (.lst [.ref t1, .ref t3, .ref t6]) = Ha at all uy ⊢
    have hla := all _ _ hl
    refine ⟨_, rfl, .inl ⟨rfl, _, SqL.of hla⟩, _, rfl, _, rfl, _, rfl, _, _, rfl, rfl, ⟨by decide, by decide⟩, _, _, rfl, rfl, (by show (0 : Int) < 3; decide), l3, _, _, y, rfl, rfl, SqL.of (by rw [← hHa]; exact upd_same), ey, sz one3, fun t8 m8 => ?_⟩
    have sh := same_new (o := .tup [.str "group", .int (1 + num), y]) m8
    have hlb := sh _ _ hla
    refine ⟨l, _, _, rfl, rfl, hlb, szl (by omega), ?_⟩
    have tl := TL.lst (K := K) (ys := ws ++ [.ref t8]) hlb
    have u8 : PAt K (upd (upd Ha t8 (.tup [.str "group", .int (1 + num), y])) l (.lst (ws ++ [.ref t8]))) (.group (1 + num) p2) (.ref t8) :=
      PAt.mono tl.ts ⟨t8, y, rfl, by omega, SqT.of upd_same, uy.mono (TS.of sh)⟩
    have pv8 : Paired (TAt K (upd (upd Ha t8 (.tup [.str "group", .int (1 + num), y])) l (.lst (ws ++ [.ref t8])))) ts ws := Paired.mapP pv fun _ _ z => z.mono ((TL.of (all.trans sh)).trans tl)
    have s8 : Same H (upd (upd Ha t8 (.tup [.str "group", .int (1 + num), y])) l (.lst (ws ++ [.ref t8]))) := Same.mut ((sA.trans all).trans sh) nl0
    have hl8 : upd (upd Ha t8 (.tup [.str "group", .int (1 + num), y])) l (.lst (ws ++ [.ref t8])) l = some (.lst (ws ++ [.ref t8])) := upd_same
    generalize upd (upd Ha t8 (.tup [.str "group", .int (1 + num), y])) l (.lst (ws ++ [.ref t8])) = Hb at u8 pv8 s8 hl8 ⊢
    refine ⟨_, rfl, _, _, rfl, rfl, ⟨by decide, by decide⟩, _, _, rfl, rfl, (by show (0 : Int) < 3; decide), rfl, _, rfl, ?_⟩
    have z8 : siz (.group (1 + num) p2) ≤ 10 := by rw [siz_group]; omega
    have zs : tszs (ts ++ [.ok (.group (1 + num) p2)]) ≤ 210 := by
      rw [tszs_snoc]
      show _ + siz _ ≤ _
      omega
    refine ite2 (fun c3 => ?_) (fun c3 => ?_)
    · have e3 : f / 8 % 3 = 0 := V.int.inj (of_decide_eq_true c3)
      refine ⟨_, rfl, .inl ⟨rfl, _, SqL.of hl8⟩, _, rfl, _, rfl, sz (by show 2 ≤ 10000; decide), fun t9 m9 => ⟨sz one3, fun t10 m10 => ⟨sz (by show 1 ≤ 10000; decide), fun t11 m11 => ⟨sz one3, fun t12 m12 => ?_⟩⟩⟩⟩
      have si := same_new (o := .tup [.str "sign", .str ⟨#[g]⟩]) m9
      have sj := same_new (o := .tup [.str "group", .int (1 + num), .ref t9]) m10
      have sk := same_new (o := .tup [.str "none"]) m11
      have sl := same_new (o := .tup [.str "or", .ref t10, .ref t11]) m12
      have s912 := ((si.trans sj).trans sk).trans sl
      have hl12 := s912 _ _ hl8
      refine ⟨l, _, _, rfl, rfl, hl12, szl (by rw [List.length_append]; show ws.length + 1 ≤ 10000; omega), ?_⟩
      have tl2 := TL.lst (K := K) (ys := ws ++ [.ref t8] ++ [.ref t12]) hl12
      have u12 : PAt K (upd (upd (upd (upd Hb t9 (.tup [.str "sign", .str ⟨#[g]⟩])) t10 (.tup [.str "group", .int (1 + num), .ref t9])) t11 (.tup [.str "none"])) t12 (.tup [.str "or", .ref t10, .ref t11])) (.or (.group (1 + num) (.sign g)) .none) (.ref t12) :=
        ⟨t12, _, _, rfl, SqT.of upd_same, ⟨t10, .ref t9, rfl, by omega, TS.of (sk.trans sl) _ _ (SqT.of upd_same), ⟨t9, rfl, hg, TS.of ((sj.trans sk).trans sl) _ _ (SqT.of upd_same)⟩⟩, ⟨t11, rfl, TS.of sl _ _ (SqT.of upd_same)⟩⟩
      refine ⟨.twice, ts ++ [.ok (.group (1 + num) p2)] ++ [.ok (.or (.group (1 + num) (.sign g)) .none)], ws ++ [.ref t8] ++ [.ref t12], _, rfl, Same.mut (s8.trans s912) nl0, upd_same,
        Paired.snoc (Paired.snoc (Paired.mapP pv8 fun _ _ z => z.mono ((TL.of s912).trans tl2)) (.ok (u8.mono ((TS.of s912).trans tl2.ts)))) (.ok (u12.mono tl2.ts)),
        Fit.twice2 (n := 1 + num) ft nb lt z8 (by show 4 ≤ 10; decide) zt ?_, ?_, ?_⟩
      · rcases ny with ⟨_, e⟩ | ⟨e, _⟩
        · rw [nums_group, e]
          exact List.Sublist.refl _
        · exact absurd e3 e
      · simp only [List.length_append, List.length_singleton]
        omega
      · rw [tszs_snoc]
        show _ + 4 ≤ _
        omega
    · have e3 : f / 8 % 3 ≠ 0 := fun e => c3 (by rw [show (fun i j => V.int (i % j)) (f / 8) 3 = V.int (f / 8 % 3) from rfl, e]; rfl)
      refine ⟨.twice, ts ++ [.ok (.group (1 + num) p2)], ws ++ [.ref t8], _, rfl, s8, hl8, Paired.snoc pv8 (.ok u8), Fit.twice ft nb lt z8 zt (n := 1 + num) ?_, ?_, by omega⟩
      · rcases ny with ⟨e, _⟩ | ⟨_, e⟩
        · exact absurd e e3
        · rw [nums_group, e]
          exact List.Sublist.refl _
      · simp only [List.length_append, List.length_singleton]
        omega
  clear pv ft nb lt zt lw hl sA
  rintro σ' H3 ⟨D, ts, ws, x6, rfl, sA, hl, pv, ft, lt, zt⟩
  have lw : ts.length = ws.length := Paired.length pv
  refine ⟨fun σ' H' => ∃ (D : Due) (ts : List PT) (ws : List V), σ' = [some (.ref a), some (.int f), some (.str ⟨#[g]⟩), some (.int (1 + num)), some (.ref l), some (.str (dn D)), x6, none, none, none] ∧ Same H H' ∧ H' l = some (.lst ws) ∧ Paired (TAt K H') ts ws ∧
    Fit D ts, ?_, ?_⟩
  · refine ⟨_, rfl, _, _, rfl, rfl, (by show (0 : Int) < 2; decide), rfl, _, rfl, ?_⟩
    refine ite2 (fun c => ?_) (fun c => ⟨D, ts, ws, rfl, sA, hl, pv, ft⟩)
    refine ⟨_, rfl, .inl ⟨rfl, _, SqL.of hl⟩, _, rfl, a, ns, 4, rfl, sA.seq ha, _, rfl, _, g, rfl, fun v H4 s4 b4 => ?_⟩
    have hl4 := s4 _ _ hl
    refine ⟨l, _, v, rfl, rfl, hl4, szl (by omega), ?_⟩
    have tl := TL.lst (K := K) (ys := ws ++ [v]) hl4
    exact ⟨.bad, ts ++ [.bad], ws ++ [v], rfl, Same.mut (sA.trans s4) nl0, upd_same, Paired.snoc (Paired.mapP pv fun _ _ z => z.mono ((TL.of s4).trans tl)) (.bad (b4.mono tl)), Fit.badly ft lt zt⟩
  clear pv ft lt zt lw hl sA
  rintro σ' H4 ⟨D, ts, ws, rfl, sA, hl, pv, ft⟩
  have lw : ts.length = ws.length := Paired.length pv
  have wl1 : 1 ≤ ws.length := by rw [← lw]; exact ft.l1
  have wl5 : ws.length ≤ 5 := by rw [← lw]; exact ft.l5
  refine ⟨_, rfl, _, _, rfl, rfl, ⟨by decide, by decide⟩, _, rfl, l, _, rfl, .inl (SqL.of hl), _, _, rfl, rfl, (by show (0 : Int) < ((ws.length : Nat) : Int); omega), ?_⟩
  have k0 := Int.emod_nonneg (f / 24) (show ((ws.length : Nat) : Int) ≠ 0 by omega)
  obtain ⟨c, hc⟩ : ∃ c : Nat, f / 24 % ((ws.length : Nat) : Int) = (c : Int) := ⟨_, (Int.toNat_of_nonneg k0).symm⟩
  show (_ : Prop)
  simp only [hc]
  refine ⟨_, rfl, _, rfl, _, rfl, l, _, rfl, SqL.of hl, fun l2 n2 => ?_⟩
  rw [cut_from]
  have s5 := same_new (o := .lst (ws.drop c)) n2
  refine ⟨_, rfl, _, rfl, _, rfl, l, _, rfl, SqL.of (s5 _ _ hl), fun l3 n3 => ?_⟩
  rw [cut_to]
  have s6 := same_new (o := .lst (ws.take c)) n3
  refine ⟨l2, l3, _, _, rfl, rfl, s6 _ _ upd_same, upd_same, sz ?_, fun l4 n4 => ?_⟩
  · rw [List.length_drop, List.length_take]
    omega
  have s7 := same_new (o := .lst (ws.drop c ++ ws.take c)) n4
  have s57 := (s5.trans s6).trans s7
  refine ⟨_, rfl, a, ns, 5, rfl, (sA.trans s57).seq ha, _, _, rfl, rfl, ⟨by decide, by decide, by decide⟩, _, _, rfl, rfl, ?_, ?_⟩
  · show (0 : Int) < 24 ^ (5 : Int).toNat
    decide +kernel
  have pv7 := Paired.mapP pv fun _ _ z => z.mono (TL.of (K := K) s57)
  have ft7 := ft.perm (rot_perm ts c)
  refine ⟨l4, _, _, _, rfl, SqL.of upd_same, Paired.app (Paired.drop' c pv7) (Paired.take' c pv7), ft7.l1, Nat.le_succ_of_le ft7.l5, fun v t H5 s8 ut jr => ?_⟩
  have du := due_of ft7 jr ut
  refine ⟨_, rfl, v, D, rfl, du, fun r H6 s9 hr6 => ?_⟩
  have hf := SqT.of (K := K) hr6
  refine ⟨_, rfl, _, _, _, _, rfl, rfl, hf, at1 rfl, _, rfl, rfl, _, rfl, ?_⟩
  refine ite2 (fun c1 => absurd c1 (by cases D <;> decide)) (fun _ => e_nx ?_)
  refine ⟨_, rfl, rfl, _, rfl, ?_⟩
  have s19 := ((sA.trans s57).trans s8).trans s9
  refine ite2 (fun c1 => ?_) (fun c1 => e_nx ?_)
  · have eD : D = .none := by cases D <;> first | rfl | exact absurd c1 (by decide)
    subst eD
    obtain ⟨_, n1', n2'⟩ := ft7.no rfl
    have tb : thas t = false := by
      rw [jr.has]
      exact Bool.eq_false_iff.mpr fun h => by cases ft7.bad.mp h
    obtain ⟨p9, u9, z9, _⟩ := TAt_pat ut tb
    obtain ⟨a9, ws9, rfl, q9, _⟩ := u9.node
    have q10 := TS.of (K := K) s9 _ _ q9
    have u10 := u9.mono (TS.of (K := K) s9)
    refine ⟨_, rfl, _, _, _, _, rfl, rfl, hf, at0 rfl, _, _, _, _, true, rfl, .ty _, tyx_tup q10, kit_ty (by decide +kernel), true, rfl, iteT ?_⟩
    have dp : (pd p9).depth ≤ 64 := by
      have h1 := pd_depth p9
      have h2 := dep_siz p9
      have h3 := jr.sz
      rw [n1'] at h3
      omega
    refine ⟨_, rfl, _, _, _, _, rfl, rfl, hf, at0 rfl, _, rfl, pd p9, pd p9, u10.dp, u10.dp, shaped_of u10.lay dp, shaped_of u10.lay dp, ?_⟩
    rw [SeqAt.eqv_refl _ u10.lay]
    exact q _
  · have nD : D ≠ .none := fun e => c1 (by rw [e]; decide)
    refine ⟨_, rfl, a, ns, 6, rfl, s19.seq ha, _, _, rfl, rfl, (by show (0 : Int) < 6; decide), _, rfl, _, rfl, _, v, _, D, rfl, Int.emod_nonneg _ (by decide), Int.emod_lt_of_pos _ (by decide), du.mono (TL.of s9), nD, fun H7 s10 => ?_⟩
    refine ⟨_, rfl, rfl, true, (by simp), iteT ?_⟩
    exact ⟨_, rfl, _, rfl, v, D, rfl, nD, du.mono (TL.of (s9.trans s10)), fun H8 => q H8⟩

end
end G1

set_option maxRecDepth 100000
set_option maxHeartbeats 4000000
namespace G1
open PySem PySem.Spec PyProof.Rows L2 Gm
theorem all_mk {l : PySem.W.OpenLaw} {w : World} {K : PySem.W.Frag} {h : Heap} {mg : Str → Option Value} {fa : Addr} (X : K.In h) (G : h.Ns mainGlobals mg) (hfa : mg "law" = some (.ref fa))
    {f0 : Addr} {od0 an0 : Option Addr} {sl0 : Array (Option Value)} {oc0 kV0 dc0 pm0 cd0 ct0 : Value}
    {f1 : Addr} {od1 an1 : Option Addr} {sl1 : Array (Option Value)} {oc1 kV1 dc1 pm1 cd1 ct1 : Value}
    {f2 : Addr} {od2 an2 : Option Addr} {sl2 : Array (Option Value)} {oc2 kV2 dc2 pm2 cd2 ct2 : Value}
    {f3 : Addr} {od3 an3 : Option Addr} {sl3 : Array (Option Value)} {oc3 kV3 dc3 pm3 cd3 ct3 : Value}
    {f4 : Addr} {od4 an4 : Option Addr} {sl4 : Array (Option Value)} {oc4 kV4 dc4 pm4 cd4 ct4 : Value}
    {f5 : Addr} {od5 an5 : Option Addr} {sl5 : Array (Option Value)} {oc5 kV5 dc5 pm5 cd5 ct5 : Value}
    {f6 : Addr} {od6 an6 : Option Addr} {sl6 : Array (Option Value)} {oc6 kV6 dc6 pm6 cd6 ct6 : Value}
    {f7 : Addr} {od7 an7 : Option Addr} {sl7 : Array (Option Value)} {oc7 kV7 dc7 pm7 cd7 ct7 : Value}
    {f8 : Addr} {od8 an8 : Option Addr} {sl8 : Array (Option Value)} {oc8 kV8 dc8 pm8 cd8 ct8 : Value}
    {f9 : Addr} {od9 an9 : Option Addr} {sl9 : Array (Option Value)} {oc9 kV9 dc9 pm9 cd9 ct9 : Value}
    {f10 : Addr} {od10 an10 : Option Addr} {sl10 : Array (Option Value)} {oc10 kV10 dc10 pm10 cd10 ct10 : Value}
    {f11 : Addr} {od11 an11 : Option Addr} {sl11 : Array (Option Value)} {oc11 kV11 dc11 pm11 cd11 ct11 : Value}
    {f12 : Addr} {od12 an12 : Option Addr} {sl12 : Array (Option Value)} {oc12 kV12 dc12 pm12 cd12 ct12 : Value}
    {f13 : Addr} {od13 an13 : Option Addr} {sl13 : Array (Option Value)} {oc13 kV13 dc13 pm13 cd13 ct13 : Value}
    {f14 : Addr} {od14 an14 : Option Addr} {sl14 : Array (Option Value)} {oc14 kV14 dc14 pm14 cd14 ct14 : Value}
    {f15 : Addr} {od15 an15 : Option Addr} {sl15 : Array (Option Value)} {oc15 kV15 dc15 pm15 cd15 ct15 : Value}
    {f16 : Addr} {od16 an16 : Option Addr} {sl16 : Array (Option Value)} {oc16 kV16 dc16 pm16 cd16 ct16 : Value}
    {f17 : Addr} {od17 an17 : Option Addr} {sl17 : Array (Option Value)} {oc17 kV17 dc17 pm17 cd17 ct17 : Value}
    {f18 : Addr} {od18 an18 : Option Addr} {sl18 : Array (Option Value)} {oc18 kV18 dc18 pm18 cd18 ct18 : Value}
    {f19 : Addr} {od19 an19 : Option Addr} {sl19 : Array (Option Value)} {oc19 kV19 dc19 pm19 cd19 ct19 : Value}
    {f20 : Addr} {od20 an20 : Option Addr} {sl20 : Array (Option Value)} {oc20 kV20 dc20 pm20 cd20 ct20 : Value}
    {f21 : Addr} {od21 an21 : Option Addr} {sl21 : Array (Option Value)} {oc21 kV21 dc21 pm21 cd21 ct21 : Value}
    {f22 : Addr} {od22 an22 : Option Addr} {sl22 : Array (Option Value)} {oc22 kV22 dc22 pm22 cd22 ct22 : Value}
    {f23 : Addr} {od23 an23 : Option Addr} {sl23 : Array (Option Value)} {oc23 kV23 dc23 pm23 cd23 ct23 : Value}
    {f24 : Addr} {od24 an24 : Option Addr} {sl24 : Array (Option Value)} {oc24 kV24 dc24 pm24 cd24 ct24 : Value}
    {f25 : Addr} {od25 an25 : Option Addr} {sl25 : Array (Option Value)} {oc25 kV25 dc25 pm25 cd25 ct25 : Value}
    {f26 : Addr} {od26 an26 : Option Addr} {sl26 : Array (Option Value)} {oc26 kV26 dc26 pm26 cd26 ct26 : Value}
    {f27 : Addr} {od27 an27 : Option Addr} {sl27 : Array (Option Value)} {oc27 kV27 dc27 pm27 cd27 ct27 : Value}
    {f28 : Addr} {od28 an28 : Option Addr} {sl28 : Array (Option Value)} {oc28 kV28 dc28 pm28 cd28 ct28 : Value}
    {f29 : Addr} {od29 an29 : Option Addr} {sl29 : Array (Option Value)} {oc29 kV29 dc29 pm29 cd29 ct29 : Value}
    {f30 : Addr} {od30 an30 : Option Addr} {sl30 : Array (Option Value)} {oc30 kV30 dc30 pm30 cd30 ct30 : Value}
    {f31 : Addr} {od31 an31 : Option Addr} {sl31 : Array (Option Value)} {oc31 kV31 dc31 pm31 cd31 ct31 : Value}
    {f32 : Addr} {od32 an32 : Option Addr} {sl32 : Array (Option Value)} {oc32 kV32 dc32 pm32 cd32 ct32 : Value}
    {f33 : Addr} {od33 an33 : Option Addr} {sl33 : Array (Option Value)} {oc33 kV33 dc33 pm33 cd33 ct33 : Value}
    {f34 : Addr} {od34 an34 : Option Addr} {sl34 : Array (Option Value)} {oc34 kV34 dc34 pm34 cd34 ct34 : Value}
    {f35 : Addr} {od35 an35 : Option Addr} {sl35 : Array (Option Value)} {oc35 kV35 dc35 pm35 cd35 ct35 : Value}
    {f36 : Addr} {od36 an36 : Option Addr} {sl36 : Array (Option Value)} {oc36 kV36 dc36 pm36 cd36 ct36 : Value}
    {f37 : Addr} {od37 an37 : Option Addr} {sl37 : Array (Option Value)} {oc37 kV37 dc37 pm37 cd37 ct37 : Value}
    {f38 : Addr} {od38 an38 : Option Addr} {sl38 : Array (Option Value)} {oc38 kV38 dc38 pm38 cd38 ct38 : Value}
    {f39 : Addr} {od39 an39 : Option Addr} {sl39 : Array (Option Value)} {oc39 kV39 dc39 pm39 cd39 ct39 : Value}
    {f40 : Addr} {od40 an40 : Option Addr} {sl40 : Array (Option Value)} {oc40 kV40 dc40 pm40 cd40 ct40 : Value}
    {f41 : Addr} {od41 an41 : Option Addr} {sl41 : Array (Option Value)} {oc41 kV41 dc41 pm41 cd41 ct41 : Value}
    {f42 : Addr} {od42 an42 : Option Addr} {sl42 : Array (Option Value)} {oc42 kV42 dc42 pm42 cd42 ct42 : Value}
    {dL : Addr} {esL : Array DictEntry} {nL : Nat}
    {tk0 : Tok}
    {tk1 : Tok}
    {tk2 : Tok}
    {tk3 : Tok}
    {tk4 : Tok}
    {tk5 : Tok}
    {tk6 : Tok}
    {tk7 : Tok}
    {cMarkError : Addr}
    {cBadPattern : Addr}
    {cTwiceNumbered : Addr}
    {cEmptyRound : Addr}
    {cBadWay : Addr}
    (a0 : PySem.W.nsIn K mainGlobals "parts" = some (some (.ref f0))) (l0 : K.lookup f0 = some ⟨oc0, od0, .func (PySem.W.fnOf "parts" "parts" (defArgs s_parts) (defBody s_parts) (defScope s_parts) .none kV0 dc0 pm0 an0 cd0 ct0), sl0⟩) (c0 : PySem.W.codeIn K cd0 "parts" = true) (k0 : PySem.W.keepIn K (.ref f0) = true)
    (a1 : PySem.W.nsIn K mainGlobals "numbers" = some (some (.ref f1))) (l1 : K.lookup f1 = some ⟨oc1, od1, .func (PySem.W.fnOf "numbers" "numbers" (defArgs s_numbers) (defBody s_numbers) (defScope s_numbers) .none kV1 dc1 pm1 an1 cd1 ct1), sl1⟩) (c1 : PySem.W.codeIn K cd1 "numbers" = true) (k1 : PySem.W.keepIn K (.ref f1) = true)
    (a2 : PySem.W.nsIn K mainGlobals "checked" = some (some (.ref f2))) (l2 : K.lookup f2 = some ⟨oc2, od2, .func (PySem.W.fnOf "checked" "checked" (defArgs s_checked) (defBody s_checked) (defScope s_checked) .none kV2 dc2 pm2 an2 cd2 ct2), sl2⟩) (c2 : PySem.W.codeIn K cd2 "checked" = true) (k2 : PySem.W.keepIn K (.ref f2) = true)
    (a3 : PySem.W.nsIn K mainGlobals "_has_form" = some (some (.ref f3))) (l3 : K.lookup f3 = some ⟨oc3, od3, .func (PySem.W.fnOf "_has_form" "_has_form" (defArgs s__has_form) (defBody s__has_form) (defScope s__has_form) .none kV3 dc3 pm3 an3 cd3 ct3), sl3⟩) (c3 : PySem.W.codeIn K cd3 "_has_form" = true) (k3 : PySem.W.keepIn K (.ref f3) = true)
    (a4 : PySem.W.nsIn K mainGlobals "_is_sign" = some (some (.ref f4))) (l4 : K.lookup f4 = some ⟨oc4, od4, .func (PySem.W.fnOf "_is_sign" "_is_sign" (defArgs s__is_sign) (defBody s__is_sign) (defScope s__is_sign) .none kV4 dc4 pm4 an4 cd4 ct4), sl4⟩) (c4 : PySem.W.codeIn K cd4 "_is_sign" = true) (k4 : PySem.W.keepIn K (.ref f4) = true)
    (a5 : PySem.W.nsIn K mainGlobals "_is_group_number" = some (some (.ref f5))) (l5 : K.lookup f5 = some ⟨oc5, od5, .func (PySem.W.fnOf "_is_group_number" "_is_group_number" (defArgs s__is_group_number) (defBody s__is_group_number) (defScope s__is_group_number) .none kV5 dc5 pm5 an5 cd5 ct5), sl5⟩) (c5 : PySem.W.codeIn K cd5 "_is_group_number" = true) (k5 : PySem.W.keepIn K (.ref f5) = true)
    (a6 : PySem.W.nsIn K mainGlobals "_inner" = some (some (.ref f6))) (l6 : K.lookup f6 = some ⟨oc6, od6, .func (PySem.W.fnOf "_inner" "_inner" (defArgs s__inner) (defBody s__inner) (defScope s__inner) .none kV6 dc6 pm6 an6 cd6 ct6), sl6⟩) (c6 : PySem.W.codeIn K cd6 "_inner" = true) (k6 : PySem.W.keepIn K (.ref f6) = true)
    (a7 : PySem.W.nsIn K mainGlobals "_numbers_among" = some (some (.ref f7))) (l7 : K.lookup f7 = some ⟨oc7, od7, .func (PySem.W.fnOf "_numbers_among" "_numbers_among" (defArgs s__numbers_among) (defBody s__numbers_among) (defScope s__numbers_among) .none kV7 dc7 pm7 an7 cd7 ct7), sl7⟩) (c7 : PySem.W.codeIn K cd7 "_numbers_among" = true) (k7 : PySem.W.keepIn K (.ref f7) = true)
    (a8 : PySem.W.nsIn K mainGlobals "_has_twins" = some (some (.ref f8))) (l8 : K.lookup f8 = some ⟨oc8, od8, .func (PySem.W.fnOf "_has_twins" "_has_twins" (defArgs s__has_twins) (defBody s__has_twins) (defScope s__has_twins) .none kV8 dc8 pm8 an8 cd8 ct8), sl8⟩) (c8 : PySem.W.codeIn K cd8 "_has_twins" = true) (k8 : PySem.W.keepIn K (.ref f8) = true)
    (a9 : PySem.W.nsIn K mainGlobals "_takings" = some (some (.ref f9))) (l9 : K.lookup f9 = some ⟨oc9, od9, .func (PySem.W.fnOf "_takings" "_takings" (defArgs s__takings) (defBody s__takings) (defScope s__takings) .none kV9 dc9 pm9 an9 cd9 ct9), sl9⟩) (c9 : PySem.W.codeIn K cd9 "_takings" = true) (k9 : PySem.W.keepIn K (.ref f9) = true)
    (a10 : PySem.W.nsIn K mainGlobals "_may_take_nothing" = some (some (.ref f10))) (l10 : K.lookup f10 = some ⟨oc10, od10, .func (PySem.W.fnOf "_may_take_nothing" "_may_take_nothing" (defArgs s__may_take_nothing) (defBody s__may_take_nothing) (defScope s__may_take_nothing) .none kV10 dc10 pm10 an10 cd10 ct10), sl10⟩) (c10 : PySem.W.codeIn K cd10 "_may_take_nothing" = true) (k10 : PySem.W.keepIn K (.ref f10) = true)
    (a11 : PySem.W.nsIn K mainGlobals "_has_empty_round" = some (some (.ref f11))) (l11 : K.lookup f11 = some ⟨oc11, od11, .func (PySem.W.fnOf "_has_empty_round" "_has_empty_round" (defArgs s__has_empty_round) (defBody s__has_empty_round) (defScope s__has_empty_round) .none kV11 dc11 pm11 an11 cd11 ct11), sl11⟩) (c11 : PySem.W.codeIn K cd11 "_has_empty_round" = true) (k11 : PySem.W.keepIn K (.ref f11) = true)
    (a12 : PySem.W.nsIn K mainGlobals "first_state" = some (some (.ref f12))) (l12 : K.lookup f12 = some ⟨oc12, od12, .func (PySem.W.fnOf "first_state" "first_state" (defArgs s_first_state) (defBody s_first_state) (defScope s_first_state) .none kV12 dc12 pm12 an12 cd12 ct12), sl12⟩) (c12 : PySem.W.codeIn K cd12 "first_state" = true) (k12 : PySem.W.keepIn K (.ref f12) = true)
    (a13 : PySem.W.nsIn K mainGlobals "is_end" = some (some (.ref f13))) (l13 : K.lookup f13 = some ⟨oc13, od13, .func (PySem.W.fnOf "is_end" "is_end" (defArgs s_is_end) (defBody s_is_end) (defScope s_is_end) .none kV13 dc13 pm13 an13 cd13 ct13), sl13⟩) (c13 : PySem.W.codeIn K cd13 "is_end" = true) (k13 : PySem.W.keepIn K (.ref f13) = true)
    (a14 : PySem.W.nsIn K mainGlobals "onward" = some (some (.ref f14))) (l14 : K.lookup f14 = some ⟨oc14, od14, .func (PySem.W.fnOf "onward" "onward" (defArgs s_onward) (defBody s_onward) (defScope s_onward) .none kV14 dc14 pm14 an14 cd14 ct14), sl14⟩) (c14 : PySem.W.codeIn K cd14 "onward" = true) (k14 : PySem.W.keepIn K (.ref f14) = true)
    (a15 : PySem.W.nsIn K mainGlobals "_takes" = some (some (.ref f15))) (l15 : K.lookup f15 = some ⟨oc15, od15, .func (PySem.W.fnOf "_takes" "_takes" (defArgs s__takes) (defBody s__takes) (defScope s__takes) .none kV15 dc15 pm15 an15 cd15 ct15), sl15⟩) (c15 : PySem.W.codeIn K cd15 "_takes" = true) (k15 : PySem.W.keepIn K (.ref f15) = true)
    (a16 : PySem.W.nsIn K mainGlobals "_unfolded" = some (some (.ref f16))) (l16 : K.lookup f16 = some ⟨oc16, od16, .func (PySem.W.fnOf "_unfolded" "_unfolded" (defArgs s__unfolded) (defBody s__unfolded) (defScope s__unfolded) .none kV16 dc16 pm16 an16 cd16 ct16), sl16⟩) (c16 : PySem.W.codeIn K cd16 "_unfolded" = true) (k16 : PySem.W.keepIn K (.ref f16) = true)
    (a17 : PySem.W.nsIn K mainGlobals "numbers_ahead" = some (some (.ref f17))) (l17 : K.lookup f17 = some ⟨oc17, od17, .func (PySem.W.fnOf "numbers_ahead" "numbers_ahead" (defArgs s_numbers_ahead) (defBody s_numbers_ahead) (defScope s_numbers_ahead) .none kV17 dc17 pm17 an17 cd17 ct17), sl17⟩) (c17 : PySem.W.codeIn K cd17 "numbers_ahead" = true) (k17 : PySem.W.keepIn K (.ref f17) = true)
    (a18 : PySem.W.nsIn K mainGlobals "_number" = some (some (.ref f18))) (l18 : K.lookup f18 = some ⟨oc18, od18, .func (PySem.W.fnOf "_number" "_number" (defArgs s__number) (defBody s__number) (defScope s__number) .none kV18 dc18 pm18 an18 cd18 ct18), sl18⟩) (c18 : PySem.W.codeIn K cd18 "_number" = true) (k18 : PySem.W.keepIn K (.ref f18) = true)
    (a19 : PySem.W.nsIn K mainGlobals "_led_on_to" = some (some (.ref f19))) (l19 : K.lookup f19 = some ⟨oc19, od19, .func (PySem.W.fnOf "_led_on_to" "_led_on_to" (defArgs s__led_on_to) (defBody s__led_on_to) (defScope s__led_on_to) .none kV19 dc19 pm19 an19 cd19 ct19), sl19⟩) (c19 : PySem.W.codeIn K cd19 "_led_on_to" = true) (k19 : PySem.W.keepIn K (.ref f19) = true)
    (a20 : PySem.W.nsIn K mainGlobals "_wanted_sign" = some (some (.ref f20))) (l20 : K.lookup f20 = some ⟨oc20, od20, .func (PySem.W.fnOf "_wanted_sign" "_wanted_sign" (defArgs s__wanted_sign) (defBody s__wanted_sign) (defScope s__wanted_sign) .none kV20 dc20 pm20 an20 cd20 ct20), sl20⟩) (c20 : PySem.W.codeIn K cd20 "_wanted_sign" = true) (k20 : PySem.W.keepIn K (.ref f20) = true)
    (a21 : PySem.W.nsIn K mainGlobals "first_way" = some (some (.ref f21))) (l21 : K.lookup f21 = some ⟨oc21, od21, .func (PySem.W.fnOf "first_way" "first_way" (defArgs s_first_way) (defBody s_first_way) (defScope s_first_way) .none kV21 dc21 pm21 an21 cd21 ct21), sl21⟩) (c21 : PySem.W.codeIn K cd21 "first_way" = true) (k21 : PySem.W.keepIn K (.ref f21) = true)
    (a22 : PySem.W.nsIn K mainGlobals "dead_ends" = some (some (.ref f22))) (l22 : K.lookup f22 = some ⟨oc22, od22, .func (PySem.W.fnOf "dead_ends" "dead_ends" (defArgs s_dead_ends) (defBody s_dead_ends) (defScope s_dead_ends) .none kV22 dc22 pm22 an22 cd22 ct22), sl22⟩) (c22 : PySem.W.codeIn K cd22 "dead_ends" = true) (k22 : PySem.W.keepIn K (.ref f22) = true)
    (a23 : PySem.W.nsIn K mainGlobals "_tried" = some (some (.ref f23))) (l23 : K.lookup f23 = some ⟨oc23, od23, .func (PySem.W.fnOf "_tried" "_tried" (defArgs s__tried) (defBody s__tried) (defScope s__tried) .none kV23 dc23 pm23 an23 cd23 ct23), sl23⟩) (c23 : PySem.W.codeIn K cd23 "_tried" = true) (k23 : PySem.W.keepIn K (.ref f23) = true)
    (a24 : PySem.W.nsIn K mainGlobals "_step" = some (some (.ref f24))) (l24 : K.lookup f24 = some ⟨oc24, od24, .func (PySem.W.fnOf "_step" "_step" (defArgs s__step) (defBody s__step) (defScope s__step) .none kV24 dc24 pm24 an24 cd24 ct24), sl24⟩) (c24 : PySem.W.codeIn K cd24 "_step" = true) (k24 : PySem.W.keepIn K (.ref f24) = true)
    (a25 : PySem.W.nsIn K mainGlobals "walk" = some (some (.ref f25))) (l25 : K.lookup f25 = some ⟨oc25, od25, .func (PySem.W.fnOf "walk" "walk" (defArgs s_walk) (defBody s_walk) (defScope s_walk) .none kV25 dc25 pm25 an25 cd25 ct25), sl25⟩) (c25 : PySem.W.codeIn K cd25 "walk" = true) (k25 : PySem.W.keepIn K (.ref f25) = true)
    (a26 : PySem.W.nsIn K mainGlobals "marks" = some (some (.ref f26))) (l26 : K.lookup f26 = some ⟨oc26, od26, .func (PySem.W.fnOf "marks" "marks" (defArgs s_marks) (defBody s_marks) (defScope s_marks) .none kV26 dc26 pm26 an26 cd26 ct26), sl26⟩) (c26 : PySem.W.codeIn K cd26 "marks" = true) (k26 : PySem.W.keepIn K (.ref f26) = true)
    (a27 : PySem.W.nsIn K mainGlobals "_followed" = some (some (.ref f27))) (l27 : K.lookup f27 = some ⟨oc27, od27, .func (PySem.W.fnOf "_followed" "_followed" (defArgs s__followed) (defBody s__followed) (defScope s__followed) .none kV27 dc27 pm27 an27 cd27 ct27), sl27⟩) (c27 : PySem.W.codeIn K cd27 "_followed" = true) (k27 : PySem.W.keepIn K (.ref f27) = true)
    (a28 : PySem.W.nsIn K mainGlobals "_is_choice" = some (some (.ref f28))) (l28 : K.lookup f28 = some ⟨oc28, od28, .func (PySem.W.fnOf "_is_choice" "_is_choice" (defArgs s__is_choice) (defBody s__is_choice) (defScope s__is_choice) .none kV28 dc28 pm28 an28 cd28 ct28), sl28⟩) (c28 : PySem.W.codeIn K cd28 "_is_choice" = true) (k28 : PySem.W.keepIn K (.ref f28) = true)
    (a29 : PySem.W.nsIn K mainGlobals "fits" = some (some (.ref f29))) (l29 : K.lookup f29 = some ⟨oc29, od29, .func (PySem.W.fnOf "fits" "fits" (defArgs s_fits) (defBody s_fits) (defScope s_fits) .none kV29 dc29 pm29 an29 cd29 ct29), sl29⟩) (c29 : PySem.W.codeIn K cd29 "fits" = true) (k29 : PySem.W.keepIn K (.ref f29) = true)
    (a30 : PySem.W.nsIn K mainGlobals "taken" = some (some (.ref f30))) (l30 : K.lookup f30 = some ⟨oc30, od30, .func (PySem.W.fnOf "taken" "taken" (defArgs s_taken) (defBody s_taken) (defScope s_taken) .none kV30 dc30 pm30 an30 cd30 ct30), sl30⟩) (c30 : PySem.W.codeIn K cd30 "taken" = true) (k30 : PySem.W.keepIn K (.ref f30) = true)
    (a31 : PySem.W.nsIn K mainGlobals "_part" = some (some (.ref f31))) (l31 : K.lookup f31 = some ⟨oc31, od31, .func (PySem.W.fnOf "_part" "_part" (defArgs s__part) (defBody s__part) (defScope s__part) .none kV31 dc31 pm31 an31 cd31 ct31), sl31⟩) (c31 : PySem.W.codeIn K cd31 "_part" = true) (k31 : PySem.W.keepIn K (.ref f31) = true)
    (a32 : PySem.W.nsIn K mainGlobals "_law_cell_at" = some (some (.ref f32))) (l32 : K.lookup f32 = some ⟨oc32, od32, .func (PySem.W.fnOf "_law_cell_at" "_law_cell_at" (defArgs s__law_cell_at) (defBody s__law_cell_at) (defScope s__law_cell_at) .none kV32 dc32 pm32 an32 cd32 ct32), sl32⟩) (c32 : PySem.W.codeIn K cd32 "_law_cell_at" = true) (k32 : PySem.W.keepIn K (.ref f32) = true)
    (a33 : PySem.W.nsIn K mainGlobals "_law_sign" = some (some (.ref f33))) (l33 : K.lookup f33 = some ⟨oc33, od33, .func (PySem.W.fnOf "_law_sign" "_law_sign" (defArgs s__law_sign) (defBody s__law_sign) (defScope s__law_sign) .none kV33 dc33 pm33 an33 cd33 ct33), sl33⟩) (c33 : PySem.W.codeIn K cd33 "_law_sign" = true) (k33 : PySem.W.keepIn K (.ref f33) = true)
    (a34 : PySem.W.nsIn K mainGlobals "_law_bad" = some (some (.ref f34))) (l34 : K.lookup f34 = some ⟨oc34, od34, .func (PySem.W.fnOf "_law_bad" "_law_bad" (defArgs s__law_bad) (defBody s__law_bad) (defScope s__law_bad) .none kV34 dc34 pm34 an34 cd34 ct34), sl34⟩) (c34 : PySem.W.codeIn K cd34 "_law_bad" = true) (k34 : PySem.W.keepIn K (.ref f34) = true)
    (a35 : PySem.W.nsIn K mainGlobals "_law_two" = some (some (.ref f35))) (l35 : K.lookup f35 = some ⟨oc35, od35, .func (PySem.W.fnOf "_law_two" "_law_two" (defArgs s__law_two) (defBody s__law_two) (defScope s__law_two) .none kV35 dc35 pm35 an35 cd35 ct35), sl35⟩) (c35 : PySem.W.codeIn K cd35 "_law_two" = true) (k35 : PySem.W.keepIn K (.ref f35) = true)
    (a36 : PySem.W.nsIn K mainGlobals "_law_made" = some (some (.ref f36))) (l36 : K.lookup f36 = some ⟨oc36, od36, .func (PySem.W.fnOf "_law_made" "_law_made" (defArgs s__law_made) (defBody s__law_made) (defScope s__law_made) .none kV36 dc36 pm36 an36 cd36 ct36), sl36⟩) (c36 : PySem.W.codeIn K cd36 "_law_made" = true) (k36 : PySem.W.keepIn K (.ref f36) = true)
    (a37 : PySem.W.nsIn K mainGlobals "_law_empty" = some (some (.ref f37))) (l37 : K.lookup f37 = some ⟨oc37, od37, .func (PySem.W.fnOf "_law_empty" "_law_empty" (defArgs s__law_empty) (defBody s__law_empty) (defScope s__law_empty) .none kV37 dc37 pm37 an37 cd37 ct37), sl37⟩) (c37 : PySem.W.codeIn K cd37 "_law_empty" = true) (k37 : PySem.W.keepIn K (.ref f37) = true)
    (a38 : PySem.W.nsIn K mainGlobals "_law_joined" = some (some (.ref f38))) (l38 : K.lookup f38 = some ⟨oc38, od38, .func (PySem.W.fnOf "_law_joined" "_law_joined" (defArgs s__law_joined) (defBody s__law_joined) (defScope s__law_joined) .none kV38 dc38 pm38 an38 cd38 ct38), sl38⟩) (c38 : PySem.W.codeIn K cd38 "_law_joined" = true) (k38 : PySem.W.keepIn K (.ref f38) = true)
    (a39 : PySem.W.nsIn K mainGlobals "_law_error" = some (some (.ref f39))) (l39 : K.lookup f39 = some ⟨oc39, od39, .func (PySem.W.fnOf "_law_error" "_law_error" (defArgs s__law_error) (defBody s__law_error) (defScope s__law_error) .none kV39 dc39 pm39 an39 cd39 ct39), sl39⟩) (c39 : PySem.W.codeIn K cd39 "_law_error" = true) (k39 : PySem.W.keepIn K (.ref f39) = true)
    (a40 : PySem.W.nsIn K mainGlobals "_law_refused" = some (some (.ref f40))) (l40 : K.lookup f40 = some ⟨oc40, od40, .func (PySem.W.fnOf "_law_refused" "_law_refused" (defArgs s__law_refused) (defBody s__law_refused) (defScope s__law_refused) .none kV40 dc40 pm40 an40 cd40 ct40), sl40⟩) (c40 : PySem.W.codeIn K cd40 "_law_refused" = true) (k40 : PySem.W.keepIn K (.ref f40) = true)
    (a41 : PySem.W.nsIn K mainGlobals "_law_checked" = some (some (.ref f41))) (l41 : K.lookup f41 = some ⟨oc41, od41, .func (PySem.W.fnOf "_law_checked" "_law_checked" (defArgs s__law_checked) (defBody s__law_checked) (defScope s__law_checked) .none kV41 dc41 pm41 an41 cd41 ct41), sl41⟩) (c41 : PySem.W.codeIn K cd41 "_law_checked" = true) (k41 : PySem.W.keepIn K (.ref f41) = true)
    (a42 : PySem.W.nsIn K mainGlobals "law" = some (some (.ref f42))) (l42 : K.lookup f42 = some ⟨oc42, od42, .func (PySem.W.fnOf "law" "law" (defArgs s_law) (defBody s_law) (defScope s_law) .none kV42 dc42 pm42 an42 cd42 ct42), sl42⟩) (c42 : PySem.W.codeIn K cd42 "law" = true) (k42 : PySem.W.keepIn K (.ref f42) = true)
    (z_ValueError : PySem.W.nsIn K mainGlobals "ValueError" = some none)
    (z_all : PySem.W.nsIn K mainGlobals "all" = some none)
    (z_any : PySem.W.nsIn K mainGlobals "any" = some none)
    (z_enumerate : PySem.W.nsIn K mainGlobals "enumerate" = some none)
    (z_int : PySem.W.nsIn K mainGlobals "int" = some none)
    (z_isinstance : PySem.W.nsIn K mainGlobals "isinstance" = some none)
    (z_len : PySem.W.nsIn K mainGlobals "len" = some none)
    (z_list : PySem.W.nsIn K mainGlobals "list" = some none)
    (z_reversed : PySem.W.nsIn K mainGlobals "reversed" = some none)
    (z_set : PySem.W.nsIn K mainGlobals "set" = some none)
    (z_str : PySem.W.nsIn K mainGlobals "str" = some none)
    (z_tuple : PySem.W.nsIn K mainGlobals "tuple" = some none)
    (z_type : PySem.W.nsIn K mainGlobals "type" = some none)
    (z_zip : PySem.W.nsIn K mainGlobals "zip" = some none)
    (aL : PySem.W.nsIn K mainGlobals "LENGTHS" = some (some (.ref dL)))
    (lL : K.lookup dL = some ⟨.type "dict", none, .dict esL nL, #[]⟩)
    (kL : PySem.W.KeysLit w.params esL.toList)
    (yL : (dL == sysModules) = false)
    (gL0 : PySem.W.nsIn K dL "sign" = some (some (.int 2 tk0)))
    (gL1 : PySem.W.nsIn K dL "any" = some (some (.int 1 tk1)))
    (gL2 : PySem.W.nsIn K dL "none" = some (some (.int 1 tk2)))
    (gL3 : PySem.W.nsIn K dL "row" = some (some (.int 3 tk3)))
    (gL4 : PySem.W.nsIn K dL "or" = some (some (.int 3 tk4)))
    (gL5 : PySem.W.nsIn K dL "more" = some (some (.int 2 tk5)))
    (gL6 : PySem.W.nsIn K dL "less" = some (some (.int 2 tk6)))
    (gL7 : PySem.W.nsIn K dL "group" = some (some (.int 3 tk7)))
    (aMarkError : PySem.W.nsIn K mainGlobals "MarkError" = some (some (.ref cMarkError)))
    (aBadPattern : PySem.W.nsIn K mainGlobals "BadPattern" = some (some (.ref cBadPattern)))
    (aTwiceNumbered : PySem.W.nsIn K mainGlobals "TwiceNumbered" = some (some (.ref cTwiceNumbered)))
    (aEmptyRound : PySem.W.nsIn K mainGlobals "EmptyRound" = some (some (.ref cEmptyRound)))
    (aBadWay : PySem.W.nsIn K mainGlobals "BadWay" = some (some (.ref cBadWay)))
    (bMarkError : PySem.W.subIn K (.ref cMarkError) (.type "BaseException") = some true)
    (tMarkError : PySem.W.typeIn K (.ref cMarkError) = some (.type "type"))
    (dMarkError : PySem.W.hasDictIn K cMarkError = true)
    (selfMarkError : PySem.W.subIn K (.ref cMarkError) (.ref cMarkError) = some true)
    (bBadPattern : PySem.W.subIn K (.ref cBadPattern) (.type "BaseException") = some true)
    (tBadPattern : PySem.W.typeIn K (.ref cBadPattern) = some (.type "type"))
    (dBadPattern : PySem.W.hasDictIn K cBadPattern = true)
    (selfBadPattern : PySem.W.subIn K (.ref cBadPattern) (.ref cBadPattern) = some true)
    (bTwiceNumbered : PySem.W.subIn K (.ref cTwiceNumbered) (.type "BaseException") = some true)
    (tTwiceNumbered : PySem.W.typeIn K (.ref cTwiceNumbered) = some (.type "type"))
    (dTwiceNumbered : PySem.W.hasDictIn K cTwiceNumbered = true)
    (selfTwiceNumbered : PySem.W.subIn K (.ref cTwiceNumbered) (.ref cTwiceNumbered) = some true)
    (bEmptyRound : PySem.W.subIn K (.ref cEmptyRound) (.type "BaseException") = some true)
    (tEmptyRound : PySem.W.typeIn K (.ref cEmptyRound) = some (.type "type"))
    (dEmptyRound : PySem.W.hasDictIn K cEmptyRound = true)
    (selfEmptyRound : PySem.W.subIn K (.ref cEmptyRound) (.ref cEmptyRound) = some true)
    (bBadWay : PySem.W.subIn K (.ref cBadWay) (.type "BaseException") = some true)
    (tBadWay : PySem.W.typeIn K (.ref cBadWay) = some (.type "type"))
    (dBadWay : PySem.W.hasDictIn K cBadWay = true)
    (selfBadWay : PySem.W.subIn K (.ref cBadWay) (.ref cBadWay) = some true)
    (xBadPattern : PySem.W.excIn K cBadPattern [.type "ValueError", .type "Exception", .type "BaseException", .type "object"] "ValueError.__new__" = true)
    (kBadPattern : PySem.W.keepIn K (.ref cBadPattern) = true)
    (xTwiceNumbered : PySem.W.excIn K cTwiceNumbered [.type "ValueError", .type "Exception", .type "BaseException", .type "object"] "ValueError.__new__" = true)
    (kTwiceNumbered : PySem.W.keepIn K (.ref cTwiceNumbered) = true)
    (xEmptyRound : PySem.W.excIn K cEmptyRound [.type "ValueError", .type "Exception", .type "BaseException", .type "object"] "ValueError.__new__" = true)
    (kEmptyRound : PySem.W.keepIn K (.ref cEmptyRound) = true)
    (ecn : PySem.W.specialIn K (.builtin "object.__class__") "__get__" = some (some (.builtin "getset_descriptor.__get__")))
    (ect : PySem.W.takesIn K (.builtin "object.__class__") = some true)
    (hgBadPattern : PySem.W.findIn K (.ref cBadPattern) "__getattribute__" = some (some (.builtin "BaseException.__getattribute__")))
    (hkBadPattern : PySem.W.findIn K (.ref cBadPattern) "__getattr__" = some none)
    (haBadPattern : PySem.W.findIn K (.ref cBadPattern) "__class__" = some (some (.builtin "object.__class__")))
    (hmBadPattern : PySem.W.mroIn K cBadPattern (.type "object") = some true)
    (kvBadPattern : PySem.W.subIn K (.ref cBadPattern) (.type "ValueError") = some true)
    (sBadPatternMarkError : PySem.W.subIn K (.ref cBadPattern) (.ref cMarkError) = some true)
    (sBadPatternBadPattern : PySem.W.subIn K (.ref cBadPattern) (.ref cBadPattern) = some true)
    (sBadPatternTwiceNumbered : PySem.W.subIn K (.ref cBadPattern) (.ref cTwiceNumbered) = some false)
    (sBadPatternEmptyRound : PySem.W.subIn K (.ref cBadPattern) (.ref cEmptyRound) = some false)
    (sBadPatternBadWay : PySem.W.subIn K (.ref cBadPattern) (.ref cBadWay) = some false)
    (hgTwiceNumbered : PySem.W.findIn K (.ref cTwiceNumbered) "__getattribute__" = some (some (.builtin "BaseException.__getattribute__")))
    (hkTwiceNumbered : PySem.W.findIn K (.ref cTwiceNumbered) "__getattr__" = some none)
    (haTwiceNumbered : PySem.W.findIn K (.ref cTwiceNumbered) "__class__" = some (some (.builtin "object.__class__")))
    (hmTwiceNumbered : PySem.W.mroIn K cTwiceNumbered (.type "object") = some true)
    (kvTwiceNumbered : PySem.W.subIn K (.ref cTwiceNumbered) (.type "ValueError") = some true)
    (sTwiceNumberedMarkError : PySem.W.subIn K (.ref cTwiceNumbered) (.ref cMarkError) = some true)
    (sTwiceNumberedBadPattern : PySem.W.subIn K (.ref cTwiceNumbered) (.ref cBadPattern) = some false)
    (sTwiceNumberedTwiceNumbered : PySem.W.subIn K (.ref cTwiceNumbered) (.ref cTwiceNumbered) = some true)
    (sTwiceNumberedEmptyRound : PySem.W.subIn K (.ref cTwiceNumbered) (.ref cEmptyRound) = some false)
    (sTwiceNumberedBadWay : PySem.W.subIn K (.ref cTwiceNumbered) (.ref cBadWay) = some false)
    (hgEmptyRound : PySem.W.findIn K (.ref cEmptyRound) "__getattribute__" = some (some (.builtin "BaseException.__getattribute__")))
    (hkEmptyRound : PySem.W.findIn K (.ref cEmptyRound) "__getattr__" = some none)
    (haEmptyRound : PySem.W.findIn K (.ref cEmptyRound) "__class__" = some (some (.builtin "object.__class__")))
    (hmEmptyRound : PySem.W.mroIn K cEmptyRound (.type "object") = some true)
    (kvEmptyRound : PySem.W.subIn K (.ref cEmptyRound) (.type "ValueError") = some true)
    (sEmptyRoundMarkError : PySem.W.subIn K (.ref cEmptyRound) (.ref cMarkError) = some true)
    (sEmptyRoundBadPattern : PySem.W.subIn K (.ref cEmptyRound) (.ref cBadPattern) = some false)
    (sEmptyRoundTwiceNumbered : PySem.W.subIn K (.ref cEmptyRound) (.ref cTwiceNumbered) = some false)
    (sEmptyRoundEmptyRound : PySem.W.subIn K (.ref cEmptyRound) (.ref cEmptyRound) = some true)
    (sEmptyRoundBadWay : PySem.W.subIn K (.ref cEmptyRound) (.ref cBadWay) = some false)
    (keysL : KeysOf (fun z => (lenOf z).isSome = true) esL.toList) :
    ∃ fd : FuncData, (∀ (s : Shared) (v : Value), BindsTo s fd ⟨[v], []⟩ [("_law_script", v)]) ∧ ∀ base : Heap, K.In base → base.Ns mainGlobals mg → FnOk l.prog w K mg base CX0 9 fa fd ["_law_script"] (spLaw K) := by
  have e := hfa.symm.trans (PySem.W.mg_of X G a42)
  cases e
  have F0 := fun_mk (st := s_parts) l0 c0 k0
  have b0 := F0.binds (ps := ["pattern"]) fun _ _ _ _ _ _ us hl => match us, hl with | [_], _ => rfl
  have F1 := fun_mk (st := s_numbers) l1 c1 k1
  have b1 := F1.binds (ps := ["pattern"]) fun _ _ _ _ _ _ us hl => match us, hl with | [_], _ => rfl
  have F2 := fun_mk (st := s_checked) l2 c2 k2
  have b2 := F2.binds (ps := ["pattern"]) fun _ _ _ _ _ _ us hl => match us, hl with | [_], _ => rfl
  have F3 := fun_mk (st := s__has_form) l3 c3 k3
  have b3 := F3.binds (ps := ["thing"]) fun _ _ _ _ _ _ us hl => match us, hl with | [_], _ => rfl
  have F4 := fun_mk (st := s__is_sign) l4 c4 k4
  have b4 := F4.binds (ps := ["thing"]) fun _ _ _ _ _ _ us hl => match us, hl with | [_], _ => rfl
  have F5 := fun_mk (st := s__is_group_number) l5 c5 k5
  have b5 := F5.binds (ps := ["thing"]) fun _ _ _ _ _ _ us hl => match us, hl with | [_], _ => rfl
  have F6 := fun_mk (st := s__inner) l6 c6 k6
  have b6 := F6.binds (ps := ["part"]) fun _ _ _ _ _ _ us hl => match us, hl with | [_], _ => rfl
  have F7 := fun_mk (st := s__numbers_among) l7 c7 k7
  have b7 := F7.binds (ps := ["found"]) fun _ _ _ _ _ _ us hl => match us, hl with | [_], _ => rfl
  have F8 := fun_mk (st := s__has_twins) l8 c8 k8
  have b8 := F8.binds (ps := ["many"]) fun _ _ _ _ _ _ us hl => match us, hl with | [_], _ => rfl
  have F9 := fun_mk (st := s__takings) l9 c9 k9
  have b9 := F9.binds (ps := ["found"]) fun _ _ _ _ _ _ us hl => match us, hl with | [_], _ => rfl
  have F10 := fun_mk (st := s__may_take_nothing) l10 c10 k10
  have b10 := F10.binds (ps := ["name", "inner_answers"]) fun _ _ _ _ _ _ us hl => match us, hl with | [_, _], _ => rfl
  have F11 := fun_mk (st := s__has_empty_round) l11 c11 k11
  have b11 := F11.binds (ps := ["found"]) fun _ _ _ _ _ _ us hl => match us, hl with | [_], _ => rfl
  have F12 := fun_mk (st := s_first_state) l12 c12 k12
  have b12 := F12.binds (ps := ["pattern"]) fun _ _ _ _ _ _ us hl => match us, hl with | [_], _ => rfl
  have F13 := fun_mk (st := s_is_end) l13 c13 k13
  have b13 := F13.binds (ps := ["state", "text"]) fun _ _ _ _ _ _ us hl => match us, hl with | [_, _], _ => rfl
  have F14 := fun_mk (st := s_onward) l14 c14 k14
  have b14 := F14.binds (ps := ["state", "text"]) fun _ _ _ _ _ _ us hl => match us, hl with | [_, _], _ => rfl
  have F15 := fun_mk (st := s__takes) l15 c15 k15
  have b15 := F15.binds (ps := ["thing", "sign"]) fun _ _ _ _ _ _ us hl => match us, hl with | [_, _], _ => rfl
  have F16 := fun_mk (st := s__unfolded) l16 c16 k16
  have b16 := F16.binds (ps := ["thing"]) fun _ _ _ _ _ _ us hl => match us, hl with | [_], _ => rfl
  have F17 := fun_mk (st := s_numbers_ahead) l17 c17 k17
  have b17 := F17.binds (ps := ["pattern"]) fun _ _ _ _ _ _ us hl => match us, hl with | [_], _ => rfl
  have F18 := fun_mk (st := s__number) l18 c18 k18
  have b18 := F18.binds (ps := ["rest", "rests"]) fun _ _ _ _ _ _ us hl => match us, hl with | [_, _], _ => rfl
  have F19 := fun_mk (st := s__led_on_to) l19 c19 k19
  have b19 := F19.binds (ps := ["rest"]) fun _ _ _ _ _ _ us hl => match us, hl with | [_], _ => rfl
  have F20 := fun_mk (st := s__wanted_sign) l20 c20 k20
  have b20 := F20.binds (ps := ["rest"]) fun _ _ _ _ _ _ us hl => match us, hl with | [_], _ => rfl
  have F21 := fun_mk (st := s_first_way) l21 c21 k21
  have b21 := F21.binds (ps := ["pattern", "text"]) fun _ _ _ _ _ _ us hl => match us, hl with | [_, _], _ => rfl
  have F22 := fun_mk (st := s_dead_ends) l22 c22 k22
  have b22 := F22.binds (ps := ["pattern", "text"]) fun _ _ _ _ _ _ us hl => match us, hl with | [_, _], _ => rfl
  have F23 := fun_mk (st := s__tried) l23 c23 k23
  have b23 := F23.binds (ps := ["pattern", "text"]) fun _ _ _ _ _ _ us hl => match us, hl with | [_, _], _ => rfl
  have F24 := fun_mk (st := s__step) l24 c24 k24
  have b24 := F24.binds (ps := ["number", "state", "text", "ahead"]) fun _ _ _ _ _ _ us hl => match us, hl with | [_, _, _, _], _ => rfl
  have F25 := fun_mk (st := s_walk) l25 c25 k25
  have b25 := F25.binds (ps := ["pattern", "text", "way"]) fun _ _ _ _ _ _ us hl => match us, hl with | [_, _, _], _ => rfl
  have F26 := fun_mk (st := s_marks) l26 c26 k26
  have b26 := F26.binds (ps := ["pattern", "text", "way"]) fun _ _ _ _ _ _ us hl => match us, hl with | [_, _, _], _ => rfl
  have F27 := fun_mk (st := s__followed) l27 c27 k27
  have b27 := F27.binds (ps := ["following", "left"]) fun _ _ _ _ _ _ us hl => match us, hl with | [_, _], _ => rfl
  have F28 := fun_mk (st := s__is_choice) l28 c28 k28
  have b28 := F28.binds (ps := ["thing"]) fun _ _ _ _ _ _ us hl => match us, hl with | [_], _ => rfl
  have F29 := fun_mk (st := s_fits) l29 c29 k29
  have b29 := F29.binds (ps := ["pattern", "text"]) fun _ _ _ _ _ _ us hl => match us, hl with | [_, _], _ => rfl
  have F30 := fun_mk (st := s_taken) l30 c30 k30
  have b30 := F30.binds (ps := ["pattern", "text"]) fun _ _ _ _ _ _ us hl => match us, hl with | [_, _], _ => rfl
  have F31 := fun_mk (st := s__part) l31 c31 k31
  have b31 := F31.binds (ps := ["text", "mark"]) fun _ _ _ _ _ _ us hl => match us, hl with | [_, _], _ => rfl
  have F32 := fun_mk (st := s__law_cell_at) l32 c32 k32
  have b32 := F32.binds (ps := ["_law_script", "_law_k"]) fun _ _ _ _ _ _ us hl => match us, hl with | [_, _], _ => rfl
  have F33 := fun_mk (st := s__law_sign) l33 c33 k33
  have b33 := F33.binds (ps := ["_law_cell"]) fun _ _ _ _ _ _ us hl => match us, hl with | [_], _ => rfl
  have F34 := fun_mk (st := s__law_bad) l34 c34 k34
  have b34 := F34.binds (ps := ["_law_cell", "_law_sign_here"]) fun _ _ _ _ _ _ us hl => match us, hl with | [_, _], _ => rfl
  have F35 := fun_mk (st := s__law_two) l35 c35 k35
  have b35 := F35.binds (ps := ["_law_cell", "_law_left", "_law_right"]) fun _ _ _ _ _ _ us hl => match us, hl with | [_, _, _], _ => rfl
  have F36 := fun_mk (st := s__law_made) l36 c36 k36
  have b36 := F36.binds (ps := ["_law_cells", "_law_sign_here", "_law_number"]) fun _ _ _ _ _ _ us hl => match us, hl with | [_, _, _], _ => rfl
  have F37 := fun_mk (st := s__law_empty) l37 c37 k37
  have b37 := F37.binds (ps := ["_law_cells", "_law_cell", "_law_sign_here"]) fun _ _ _ _ _ _ us hl => match us, hl with | [_, _, _], _ => rfl
  have F38 := fun_mk (st := s__law_joined) l38 c38 k38
  have b38 := F38.binds (ps := ["_law_things", "_law_cell"]) fun _ _ _ _ _ _ us hl => match us, hl with | [_, _], _ => rfl
  have F39 := fun_mk (st := s__law_error) l39 c39 k39
  have b39 := F39.binds (ps := ["_law_ask", "_law_pattern", "_law_sign_here"]) fun _ _ _ _ _ _ us hl => match us, hl with | [_, _, _], _ => rfl
  have F40 := fun_mk (st := s__law_refused) l40 c40 k40
  have b40 := F40.binds (ps := ["_law_pattern", "_law_due"]) fun _ _ _ _ _ _ us hl => match us, hl with | [_, _], _ => rfl
  have F41 := fun_mk (st := s__law_checked) l41 c41 k41
  have b41 := F41.binds (ps := ["_law_pattern"]) fun _ _ _ _ _ _ us hl => match us, hl with | [_], _ => rfl
  have F42 := fun_mk (st := s_law) l42 c42 k42
  have b42 := F42.binds (ps := ["_law_script"]) fun _ _ _ _ _ _ us hl => match us, hl with | [_], _ => rfl
  have T : { T : Txt w K mg // T.f_law = fa ∧ T.fd_law = PySem.W.fnOf "law" "law" (defArgs s_law) (defBody s_law) (defScope s_law) .none kV42 dc42 pm42 an42 cd42 ct42 } := ⟨⟨_, _, F0, PySem.W.mg_of X G a0, b0, _, _, F1, PySem.W.mg_of X G a1, b1, _, _, F2, PySem.W.mg_of X G a2, b2, _, _, F3, PySem.W.mg_of X G a3, b3, _, _, F4, PySem.W.mg_of X G a4, b4, _, _, F5, PySem.W.mg_of X G a5, b5, _, _, F6, PySem.W.mg_of X G a6, b6, _, _, F7, PySem.W.mg_of X G a7, b7, _, _, F8, PySem.W.mg_of X G a8, b8, _, _, F9, PySem.W.mg_of X G a9, b9, _, _, F10, PySem.W.mg_of X G a10, b10, _, _, F11, PySem.W.mg_of X G a11, b11, _, _, F12, PySem.W.mg_of X G a12, b12, _, _, F13, PySem.W.mg_of X G a13, b13, _, _, F14, PySem.W.mg_of X G a14, b14, _, _, F15, PySem.W.mg_of X G a15, b15, _, _, F16, PySem.W.mg_of X G a16, b16, _, _, F17, PySem.W.mg_of X G a17, b17, _, _, F18, PySem.W.mg_of X G a18, b18, _, _, F19, PySem.W.mg_of X G a19, b19, _, _, F20, PySem.W.mg_of X G a20, b20, _, _, F21, PySem.W.mg_of X G a21, b21, _, _, F22, PySem.W.mg_of X G a22, b22, _, _, F23, PySem.W.mg_of X G a23, b23, _, _, F24, PySem.W.mg_of X G a24, b24, _, _, F25, PySem.W.mg_of X G a25, b25, _, _, F26, PySem.W.mg_of X G a26, b26, _, _, F27, PySem.W.mg_of X G a27, b27, _, _, F28, PySem.W.mg_of X G a28, b28, _, _, F29, PySem.W.mg_of X G a29, b29, _, _, F30, PySem.W.mg_of X G a30, b30, _, _, F31, PySem.W.mg_of X G a31, b31, _, _, F32, PySem.W.mg_of X G a32, b32, _, _, F33, PySem.W.mg_of X G a33, b33, _, _, F34, PySem.W.mg_of X G a34, b34, _, _, F35, PySem.W.mg_of X G a35, b35, _, _, F36, PySem.W.mg_of X G a36, b36, _, _, F37, PySem.W.mg_of X G a37, b37, _, _, F38, PySem.W.mg_of X G a38, b38, _, _, F39, PySem.W.mg_of X G a39, b39, _, _, F40, PySem.W.mg_of X G a40, b40, _, _, F41, PySem.W.mg_of X G a41, b41, _, _, F42, PySem.W.mg_of X G a42, b42, PySem.W.mg_none_of X G z_ValueError, PySem.W.mg_none_of X G z_all, PySem.W.mg_none_of X G z_any, PySem.W.mg_none_of X G z_enumerate, PySem.W.mg_none_of X G z_int, PySem.W.mg_none_of X G z_isinstance, PySem.W.mg_none_of X G z_len, PySem.W.mg_none_of X G z_list, PySem.W.mg_none_of X G z_reversed, PySem.W.mg_none_of X G z_set, PySem.W.mg_none_of X G z_str, PySem.W.mg_none_of X G z_tuple, PySem.W.mg_none_of X G z_type, PySem.W.mg_none_of X G z_zip, dL, PySem.W.mg_of X G aL, ⟨esL, nL, lL, kL⟩, yL, ⟨esL, nL, _, lL, kL, gL0, ⟨tk0, rfl⟩⟩, ⟨esL, nL, _, lL, kL, gL1, ⟨tk1, rfl⟩⟩, ⟨esL, nL, _, lL, kL, gL2, ⟨tk2, rfl⟩⟩, ⟨esL, nL, _, lL, kL, gL3, ⟨tk3, rfl⟩⟩, ⟨esL, nL, _, lL, kL, gL4, ⟨tk4, rfl⟩⟩, ⟨esL, nL, _, lL, kL, gL5, ⟨tk5, rfl⟩⟩, ⟨esL, nL, _, lL, kL, gL6, ⟨tk6, rfl⟩⟩, ⟨esL, nL, _, lL, kL, gL7, ⟨tk7, rfl⟩⟩, cMarkError, PySem.W.mg_of X G aMarkError, cBadPattern, PySem.W.mg_of X G aBadPattern, cTwiceNumbered, PySem.W.mg_of X G aTwiceNumbered, cEmptyRound, PySem.W.mg_of X G aEmptyRound, cBadWay, PySem.W.mg_of X G aBadWay, xBadPattern, kBadPattern, bBadPattern, tBadPattern, xTwiceNumbered, kTwiceNumbered, bTwiceNumbered, tTwiceNumbered, xEmptyRound, kEmptyRound, bEmptyRound, tEmptyRound, ⟨hgBadPattern, hkBadPattern, bBadPattern, dBadPattern, haBadPattern, ecn, ect, hmBadPattern⟩, kit_ve kvBadPattern, PySem.W.exm_ref bMarkError dMarkError tMarkError sBadPatternMarkError, kit_ref dMarkError tMarkError sBadPatternMarkError selfMarkError, PySem.W.exm_ref bBadPattern dBadPattern tBadPattern sBadPatternBadPattern, kit_ref dBadPattern tBadPattern sBadPatternBadPattern selfBadPattern, PySem.W.exm_ref bTwiceNumbered dTwiceNumbered tTwiceNumbered sBadPatternTwiceNumbered, kit_ref dTwiceNumbered tTwiceNumbered sBadPatternTwiceNumbered selfTwiceNumbered, PySem.W.exm_ref bEmptyRound dEmptyRound tEmptyRound sBadPatternEmptyRound, kit_ref dEmptyRound tEmptyRound sBadPatternEmptyRound selfEmptyRound, PySem.W.exm_ref bBadWay dBadWay tBadWay sBadPatternBadWay, kit_ref dBadWay tBadWay sBadPatternBadWay selfBadWay, ⟨hgTwiceNumbered, hkTwiceNumbered, bTwiceNumbered, dTwiceNumbered, haTwiceNumbered, ecn, ect, hmTwiceNumbered⟩, kit_ve kvTwiceNumbered, PySem.W.exm_ref bMarkError dMarkError tMarkError sTwiceNumberedMarkError, kit_ref dMarkError tMarkError sTwiceNumberedMarkError selfMarkError, PySem.W.exm_ref bBadPattern dBadPattern tBadPattern sTwiceNumberedBadPattern, kit_ref dBadPattern tBadPattern sTwiceNumberedBadPattern selfBadPattern, PySem.W.exm_ref bTwiceNumbered dTwiceNumbered tTwiceNumbered sTwiceNumberedTwiceNumbered, kit_ref dTwiceNumbered tTwiceNumbered sTwiceNumberedTwiceNumbered selfTwiceNumbered, PySem.W.exm_ref bEmptyRound dEmptyRound tEmptyRound sTwiceNumberedEmptyRound, kit_ref dEmptyRound tEmptyRound sTwiceNumberedEmptyRound selfEmptyRound, PySem.W.exm_ref bBadWay dBadWay tBadWay sTwiceNumberedBadWay, kit_ref dBadWay tBadWay sTwiceNumberedBadWay selfBadWay, ⟨hgEmptyRound, hkEmptyRound, bEmptyRound, dEmptyRound, haEmptyRound, ecn, ect, hmEmptyRound⟩, kit_ve kvEmptyRound, PySem.W.exm_ref bMarkError dMarkError tMarkError sEmptyRoundMarkError, kit_ref dMarkError tMarkError sEmptyRoundMarkError selfMarkError, PySem.W.exm_ref bBadPattern dBadPattern tBadPattern sEmptyRoundBadPattern, kit_ref dBadPattern tBadPattern sEmptyRoundBadPattern selfBadPattern, PySem.W.exm_ref bTwiceNumbered dTwiceNumbered tTwiceNumbered sEmptyRoundTwiceNumbered, kit_ref dTwiceNumbered tTwiceNumbered sEmptyRoundTwiceNumbered selfTwiceNumbered, PySem.W.exm_ref bEmptyRound dEmptyRound tEmptyRound sEmptyRoundEmptyRound, kit_ref dEmptyRound tEmptyRound sEmptyRoundEmptyRound selfEmptyRound, PySem.W.exm_ref bBadWay dBadWay tBadWay sEmptyRoundBadWay, kit_ref dBadWay tBadWay sEmptyRoundBadWay selfBadWay, fun z hz => ⟨esL, nL, _, lL, kL, nsIn_no lL keysL (by rw [hz]; exact fun q => by cases q), trivial⟩⟩, rfl, rfl⟩
  obtain ⟨T, rfl, e2⟩ := T
  refine ⟨T.fd_law, fun s v => ?_, fun base _ _ => ok_law T⟩
  rw [e2]
  exact .of_eq rfl
theorem walk {l : PySem.W.OpenLaw} {q : Program} {loose : List Str} {XP : (Str → Option Value) → Heap → Prop} {YP : World → Heap → Prop} {d : DefRec} {K : Params → PySem.W.Frag} (hn : l.most = some 63) (hdf : d.params.defaults = [])
    (hY : ∀ (w : World) (h : Heap), YP w h → (K w.params).In h)
    (F : ∀ (w : World) (mg : Str → Option Value) (fa : Addr) (h : Heap), (K w.params).In h → h.Ns mainGlobals mg → mg d.name = some (.ref fa) →
      ∃ fd : FuncData, (∀ (s : Shared) (u : Value), BindsTo s fd ⟨[u], []⟩ [("_law_script", u)]) ∧ ∀ base : Heap, (K w.params).In base → base.Ns mainGlobals mg → FnOk l.prog w (K w.params) mg base CX0 9 fa fd ["_law_script"] (spLaw (K w.params))) :
    PySem.W.WalkO q loose XP YP l.row.toRowW d [] (fun f vs => PySem.call f vs) :=
  L2.walk_of (n := 63) (k := 9) (x := "_law_script") (CX := fun _ => CX0) (sp := fun w => (spLaw (K w.params))) hn (by decide) hdf ⟨rfl, by decide, by decide⟩ hY F (fun _ _ a ns hl _ hS => ⟨a, ns, rfl, hS, hl, fun _ => rfl⟩) fun _ _ _ _ _ z => z
end G1

open PySem PySem.W PyProof.Rows
set_option maxRecDepth 100000 in
set_option maxHeartbeats 0 in
theorem PySem.Challenge.cw_groupmarks_k03_what_is_refused_holds : PySem.Challenge.rw_groupmarks_k03_what_is_refused.Holds := by
  w_on; o_law; k_head; (case hw => w_witness2)
  k_fill
  refine G1.walk (l := PySem.Challenge.rw_groupmarks_k03_what_is_refused) rfl rfl (fun w h Y => PySem.W.kIn_of Y) ?F
  case F =>
    intro w mg fa h KX G hmg
    refine' G1.all_mk KX G hmg ?a0 ?l0 ?c0 ?k0 ?a1 ?l1 ?c1 ?k1 ?a2 ?l2 ?c2 ?k2 ?a3 ?l3 ?c3 ?k3 ?a4 ?l4 ?c4 ?k4 ?a5 ?l5 ?c5 ?k5 ?a6 ?l6 ?c6 ?k6 ?a7 ?l7 ?c7 ?k7 ?a8 ?l8 ?c8 ?k8 ?a9 ?l9 ?c9 ?k9 ?a10 ?l10 ?c10 ?k10 ?a11 ?l11 ?c11 ?k11 ?a12 ?l12 ?c12 ?k12 ?a13 ?l13 ?c13 ?k13 ?a14 ?l14 ?c14 ?k14 ?a15 ?l15 ?c15 ?k15 ?a16 ?l16 ?c16 ?k16 ?a17 ?l17 ?c17 ?k17 ?a18 ?l18 ?c18 ?k18 ?a19 ?l19 ?c19 ?k19 ?a20 ?l20 ?c20 ?k20 ?a21 ?l21 ?c21 ?k21 ?a22 ?l22 ?c22 ?k22 ?a23 ?l23 ?c23 ?k23 ?a24 ?l24 ?c24 ?k24 ?a25 ?l25 ?c25 ?k25 ?a26 ?l26 ?c26 ?k26 ?a27 ?l27 ?c27 ?k27 ?a28 ?l28 ?c28 ?k28 ?a29 ?l29 ?c29 ?k29 ?a30 ?l30 ?c30 ?k30 ?a31 ?l31 ?c31 ?k31 ?a32 ?l32 ?c32 ?k32 ?a33 ?l33 ?c33 ?k33 ?a34 ?l34 ?c34 ?k34 ?a35 ?l35 ?c35 ?k35 ?a36 ?l36 ?c36 ?k36 ?a37 ?l37 ?c37 ?k37 ?a38 ?l38 ?c38 ?k38 ?a39 ?l39 ?c39 ?k39 ?a40 ?l40 ?c40 ?k40 ?a41 ?l41 ?c41 ?k41 ?a42 ?l42 ?c42 ?k42 ?z_ValueError ?z_all ?z_any ?z_enumerate ?z_int ?z_isinstance ?z_len ?z_list ?z_reversed ?z_set ?z_str ?z_tuple ?z_type ?z_zip ?aL ?lL ?kL ?yL ?gL0 ?gL1 ?gL2 ?gL3 ?gL4 ?gL5 ?gL6 ?gL7 ?aMarkError ?aBadPattern ?aTwiceNumbered ?aEmptyRound ?aBadWay ?bMarkError ?tMarkError ?dMarkError ?selfMarkError ?bBadPattern ?tBadPattern ?dBadPattern ?selfBadPattern ?bTwiceNumbered ?tTwiceNumbered ?dTwiceNumbered ?selfTwiceNumbered ?bEmptyRound ?tEmptyRound ?dEmptyRound ?selfEmptyRound ?bBadWay ?tBadWay ?dBadWay ?selfBadWay ?xBadPattern ?kBadPattern ?xTwiceNumbered ?kTwiceNumbered ?xEmptyRound ?kEmptyRound ?ecn ?ect ?hgBadPattern ?hkBadPattern ?haBadPattern ?hmBadPattern ?kvBadPattern ?sBadPatternMarkError ?sBadPatternBadPattern ?sBadPatternTwiceNumbered ?sBadPatternEmptyRound ?sBadPatternBadWay ?hgTwiceNumbered ?hkTwiceNumbered ?haTwiceNumbered ?hmTwiceNumbered ?kvTwiceNumbered ?sTwiceNumberedMarkError ?sTwiceNumberedBadPattern ?sTwiceNumberedTwiceNumbered ?sTwiceNumberedEmptyRound ?sTwiceNumberedBadWay ?hgEmptyRound ?hkEmptyRound ?haEmptyRound ?hmEmptyRound ?kvEmptyRound ?sEmptyRoundMarkError ?sEmptyRoundBadPattern ?sEmptyRoundTwiceNumbered ?sEmptyRoundEmptyRound ?sEmptyRoundBadWay ?keysL
    (case a0 => k_is)
    (case l0 => k_is)
    (case c0 => k_is)
    (case k0 => k_is)
    (case a1 => k_is)
    (case l1 => k_is)
    (case c1 => k_is)
    (case k1 => k_is)
    (case a2 => k_is)
    (case l2 => k_is)
    (case c2 => k_is)
    (case k2 => k_is)
    (case a3 => k_is)
    (case l3 => k_is)
    (case c3 => k_is)
    (case k3 => k_is)
    (case a4 => k_is)
    (case l4 => k_is)
    (case c4 => k_is)
    (case k4 => k_is)
    (case a5 => k_is)
    (case l5 => k_is)
    (case c5 => k_is)
    (case k5 => k_is)
    (case a6 => k_is)
    (case l6 => k_is)
    (case c6 => k_is)
    (case k6 => k_is)
    (case a7 => k_is)
    (case l7 => k_is)
    (case c7 => k_is)
    (case k7 => k_is)
    (case a8 => k_is)
    (case l8 => k_is)
    (case c8 => k_is)
    (case k8 => k_is)
    (case a9 => k_is)
    (case l9 => k_is)
    (case c9 => k_is)
    (case k9 => k_is)
    (case a10 => k_is)
    (case l10 => k_is)
    (case c10 => k_is)
    (case k10 => k_is)
    (case a11 => k_is)
    (case l11 => k_is)
    (case c11 => k_is)
    (case k11 => k_is)
    (case a12 => k_is)
    (case l12 => k_is)
    (case c12 => k_is)
    (case k12 => k_is)
    (case a13 => k_is)
    (case l13 => k_is)
    (case c13 => k_is)
    (case k13 => k_is)
    (case a14 => k_is)
    (case l14 => k_is)
    (case c14 => k_is)
    (case k14 => k_is)
    (case a15 => k_is)
    (case l15 => k_is)
    (case c15 => k_is)
    (case k15 => k_is)
    (case a16 => k_is)
    (case l16 => k_is)
    (case c16 => k_is)
    (case k16 => k_is)
    (case a17 => k_is)
    (case l17 => k_is)
    (case c17 => k_is)
    (case k17 => k_is)
    (case a18 => k_is)
    (case l18 => k_is)
    (case c18 => k_is)
    (case k18 => k_is)
    (case a19 => k_is)
    (case l19 => k_is)
    (case c19 => k_is)
    (case k19 => k_is)
    (case a20 => k_is)
    (case l20 => k_is)
    (case c20 => k_is)
    (case k20 => k_is)
    (case a21 => k_is)
    (case l21 => k_is)
    (case c21 => k_is)
    (case k21 => k_is)
    (case a22 => k_is)
    (case l22 => k_is)
    (case c22 => k_is)
    (case k22 => k_is)
    (case a23 => k_is)
    (case l23 => k_is)
    (case c23 => k_is)
    (case k23 => k_is)
    (case a24 => k_is)
    (case l24 => k_is)
    (case c24 => k_is)
    (case k24 => k_is)
    (case a25 => k_is)
    (case l25 => k_is)
    (case c25 => k_is)
    (case k25 => k_is)
    (case a26 => k_is)
    (case l26 => k_is)
    (case c26 => k_is)
    (case k26 => k_is)
    (case a27 => k_is)
    (case l27 => k_is)
    (case c27 => k_is)
    (case k27 => k_is)
    (case a28 => k_is)
    (case l28 => k_is)
    (case c28 => k_is)
    (case k28 => k_is)
    (case a29 => k_is)
    (case l29 => k_is)
    (case c29 => k_is)
    (case k29 => k_is)
    (case a30 => k_is)
    (case l30 => k_is)
    (case c30 => k_is)
    (case k30 => k_is)
    (case a31 => k_is)
    (case l31 => k_is)
    (case c31 => k_is)
    (case k31 => k_is)
    (case a32 => k_is)
    (case l32 => k_is)
    (case c32 => k_is)
    (case k32 => k_is)
    (case a33 => k_is)
    (case l33 => k_is)
    (case c33 => k_is)
    (case k33 => k_is)
    (case a34 => k_is)
    (case l34 => k_is)
    (case c34 => k_is)
    (case k34 => k_is)
    (case a35 => k_is)
    (case l35 => k_is)
    (case c35 => k_is)
    (case k35 => k_is)
    (case a36 => k_is)
    (case l36 => k_is)
    (case c36 => k_is)
    (case k36 => k_is)
    (case a37 => k_is)
    (case l37 => k_is)
    (case c37 => k_is)
    (case k37 => k_is)
    (case a38 => k_is)
    (case l38 => k_is)
    (case c38 => k_is)
    (case k38 => k_is)
    (case a39 => k_is)
    (case l39 => k_is)
    (case c39 => k_is)
    (case k39 => k_is)
    (case a40 => k_is)
    (case l40 => k_is)
    (case c40 => k_is)
    (case k40 => k_is)
    (case a41 => k_is)
    (case l41 => k_is)
    (case c41 => k_is)
    (case k41 => k_is)
    (case a42 => k_is)
    (case l42 => k_is)
    (case c42 => k_is)
    (case k42 => k_is)
    (case z_ValueError => k_is)
    (case z_all => k_is)
    (case z_any => k_is)
    (case z_enumerate => k_is)
    (case z_int => k_is)
    (case z_isinstance => k_is)
    (case z_len => k_is)
    (case z_list => k_is)
    (case z_reversed => k_is)
    (case z_set => k_is)
    (case z_str => k_is)
    (case z_tuple => k_is)
    (case z_type => k_is)
    (case z_zip => k_is)
    (case aL => k_is)
    (case lL => k_is)
    (case kL => first | k_is | exact ⟨⟨_, _, rfl, rfl⟩, ⟨_, _, rfl, rfl⟩, ⟨_, _, rfl, rfl⟩, ⟨_, _, rfl, rfl⟩, ⟨_, _, rfl, rfl⟩, ⟨_, _, rfl, rfl⟩, ⟨_, _, rfl, rfl⟩, ⟨_, _, rfl, rfl⟩, trivial⟩)
    (case yL => first | rfl | decide | k_is)
    (case gL0 => k_is)
    (case gL1 => k_is)
    (case gL2 => k_is)
    (case gL3 => k_is)
    (case gL4 => k_is)
    (case gL5 => k_is)
    (case gL6 => k_is)
    (case gL7 => k_is)
    (case aMarkError => k_is)
    (case aBadPattern => k_is)
    (case aTwiceNumbered => k_is)
    (case aEmptyRound => k_is)
    (case aBadWay => k_is)
    (case bMarkError => k_is)
    (case tMarkError => k_is)
    (case dMarkError => k_is)
    (case selfMarkError => k_is)
    (case bBadPattern => k_is)
    (case tBadPattern => k_is)
    (case dBadPattern => k_is)
    (case selfBadPattern => k_is)
    (case bTwiceNumbered => k_is)
    (case tTwiceNumbered => k_is)
    (case dTwiceNumbered => k_is)
    (case selfTwiceNumbered => k_is)
    (case bEmptyRound => k_is)
    (case tEmptyRound => k_is)
    (case dEmptyRound => k_is)
    (case selfEmptyRound => k_is)
    (case bBadWay => k_is)
    (case tBadWay => k_is)
    (case dBadWay => k_is)
    (case selfBadWay => k_is)
    (case xBadPattern => k_exc)
    (case kBadPattern => k_is)
    (case xTwiceNumbered => k_exc)
    (case kTwiceNumbered => k_is)
    (case xEmptyRound => k_exc)
    (case kEmptyRound => k_is)
    (case ecn => k_is)
    (case ect => k_is)
    (case hgBadPattern => k_is)
    (case hkBadPattern => k_is)
    (case haBadPattern => k_is)
    (case hmBadPattern => k_is)
    (case kvBadPattern => k_is)
    (case sBadPatternMarkError => k_is)
    (case sBadPatternBadPattern => k_is)
    (case sBadPatternTwiceNumbered => k_is)
    (case sBadPatternEmptyRound => k_is)
    (case sBadPatternBadWay => k_is)
    (case hgTwiceNumbered => k_is)
    (case hkTwiceNumbered => k_is)
    (case haTwiceNumbered => k_is)
    (case hmTwiceNumbered => k_is)
    (case kvTwiceNumbered => k_is)
    (case sTwiceNumberedMarkError => k_is)
    (case sTwiceNumberedBadPattern => k_is)
    (case sTwiceNumberedTwiceNumbered => k_is)
    (case sTwiceNumberedEmptyRound => k_is)
    (case sTwiceNumberedBadWay => k_is)
    (case hgEmptyRound => k_is)
    (case hkEmptyRound => k_is)
    (case haEmptyRound => k_is)
    (case hmEmptyRound => k_is)
    (case kvEmptyRound => k_is)
    (case sEmptyRoundMarkError => k_is)
    (case sEmptyRoundBadPattern => k_is)
    (case sEmptyRoundTwiceNumbered => k_is)
    (case sEmptyRoundEmptyRound => k_is)
    (case sEmptyRoundBadWay => k_is)
    (case keysL => exact ⟨⟨_, _, rfl, by decide +kernel⟩, ⟨_, _, rfl, by decide +kernel⟩, ⟨_, _, rfl, by decide +kernel⟩, ⟨_, _, rfl, by decide +kernel⟩, ⟨_, _, rfl, by decide +kernel⟩, ⟨_, _, rfl, by decide +kernel⟩, ⟨_, _, rfl, by decide +kernel⟩, ⟨_, _, rfl, by decide +kernel⟩, trivial⟩)
