import PyProof.Rows.All
import Wide.All
import OpenK.AllK
import Wide.FinOn
import PyProof.TypeEq
import PyProof.InstEq
import HandS.ForMost
import HandS.More
import HandS.Style
import HandS.IsInst
import HandS.Codes
import HandS.TupAny
import HandS.Zip
import HandS.Walk
import PySem.Challenge.RW_groupmarks_k01_takes_nothing
set_option Elab.async false
set_option linter.all false
set_option maxRecDepth 100000
set_option maxHeartbeats 4000000
namespace Gm
open PySem PySem.Spec PyProof.Rows L2

/-! ### `type(x) != tuple`, of two built-in types -/
theorem slot_type_ne : Slot "type" (cmpInfo .NotEq).2.1 "object.__ne__" :=
  .of (owner := "object") (n := "__ne__") (by rw [typeLookup_type, builtinLookup_eq_fast]; kernel_rfl) (by decide +kernel) (by decide +kernel) (by decide +kernel)
    (by first | exact .inl (by decide +kernel) | exact .inr (by decide +kernel)) (by rw [isSubtype_type]; kernel_rfl)
theorem slot_type_ne_refl : Slot "type" (cmpInfo .NotEq).2.2 "object.__ne__" :=
  .of (owner := "object") (n := "__ne__") (by rw [typeLookup_type, builtinLookup_eq_fast]; kernel_rfl) (by decide +kernel) (by decide +kernel) (by decide +kernel)
    (by first | exact .inl (by decide +kernel) | exact .inr (by decide +kernel)) (by rw [isSubtype_type]; kernel_rfl)
section
variable {prog : Program} {w : World} {A : Around} {E : Value → Shared → Prop} {s : Shared}
theorem ne_entry_same {X : String} (hX : ∀ s' : Shared, s'.TypeIs (.type X) "type") {Q : Fin → Shared → Prop} (hq : Q (.done (.ret (.bool false))) s) :
    wpAny (model prog w) A (Builtin.«object.__ne__» ⟨[.type X, .type X], []⟩) Q E s := by
  unfold Builtin.«object.__ne__»
  repeat (first
    | with_reducible refine wpAny_cRoomFor_or (.inl rfl) ?_
    | (refine wpAny_bind (m := callSpecialIfBound? (.type X) (Str.ofString "__eq__") [.type X]) (wpAny_callSpecialIfBound?_slot (hX _) TypeEq.slot_type_eq
        (call_gives TypeEq.slot_type_eq (hX _) F.entry_object_eq (F.args_object_eq_2 _ _) (TypeEq.object_eq_same rfl (by simp)) ?_)))
    | wp_step)
  refine show wpAny (model prog w) A (truthy (.bool true) >>= fun b => ret (Value.bool !b)) Q E s from ?_
  exact wpAny_bind (wpAny_truthy_bool (wpAny_pure hq))
theorem ne_type_same {X : String} (hX : ∀ s' : Shared, s'.TypeIs (.type X) "type") {Q : Value → Shared → Prop} (h : Q (.bool false) s) : wpAny (model prog w) A (compareOp .NotEq (.type X) (.type X)) Q E s := by
  show wpAny _ A (richCompare .NotEq _ _) Q E s
  refine wpAny_richCompare_same (T := "type") (hX s) (hX s) slot_type_ne ?_
  exact wpAny_call (codeAny_call_builtin slot_type_ne.plain F.cmpEntry_ne (slot_type_ne.check _ _ _ _ _ _ _ _ (hX s) (F.cmpArgs_ne _ _) (ne_entry_same hX ⟨(by intro e; cases e), h⟩)))
end

section
variable {X : Cx}
theorem op_neTy {T : String} (hX : ∀ s' : Shared, s'.TypeIs (.type T) "type") : OpR X (compareOp .NotEq) (fun x y H Q => x = .ty T ∧ y = .ty T ∧ Q (.bl false) H) := by
  intro pins s σ H x y v u Q I rx ry h
  obtain ⟨rfl, rfl, q⟩ := h
  cases (show v = Value.type T from rx)
  cases (show u = Value.type T from ry)
  exact ne_type_same hX (fin_bl I q rfl)
theorem op_eqTy {T : String} (hX : ∀ s' : Shared, s'.TypeIs (.type T) "type") : OpR X (compareOp .Eq) (fun x y H Q => x = .ty T ∧ y = .ty T ∧ Q (.bl true) H) := by
  intro pins s σ H x y v u Q I rx ry h
  obtain ⟨rfl, rfl, q⟩ := h
  cases (show v = Value.type T from rx)
  cases (show u = Value.type T from ry)
  exact TypeEq.eq_type_same hX (fin_bl I q rfl)
end

/-! ### `D.get(k)`, D a dict of the module with text keys -/
def KGet (K : PySem.W.Frag) (w : World) (a : Addr) (x : Str) (o : Option V) : Prop :=
  ∃ es n u, K.lookup a = some ⟨.type "dict", none, .dict es n, #[]⟩ ∧ PySem.W.KeysLit w.params es.toList ∧ PySem.W.nsIn K a x = some u ∧ RelO o u
def tKGet (K : PySem.W.Frag) (w : World) (td ty : TE) : TE := fun σ H Q => td σ H fun x H1 => ∃ a, x = .ref a ∧ (∃ es n, K.lookup a = some ⟨.type "dict", none, .dict es n, #[]⟩ ∧ PySem.W.KeysLit w.params es.toList) ∧ (a == sysModules) = false ∧ ty σ H1 fun y H2 => ∃ z o, y = .str z ∧ KGet K w a z o ∧ Q (o.getD .non) H2
section
variable {X : Cx} {o e : Expr} {apos cpos : Pos} {td ty : TE}
theorem pe_kget (ho : PE X o td) (he : PE X e ty) (m : M1 X o "get" apos e cpos) : PE X (.Call (.Attribute o "get" apos) [e] [] cpos) (tKGet X.K X.w td ty) := by
  refine ⟨fun pins s σ H Q I h => ?_⟩
  refine wpAny_Call_method m.base m.few m.line PySem.F.plainAttrs_dict PySem.F.slot_dict_get PySem.F.type_dict_get (thn (ho.run pins s σ H _ I h) fun u s1 ⟨x, H1, I1, rx, a, ex, ⟨es, n, hl, hk⟩, hd, q1⟩ => ?_)
  subst ex
  obtain rfl : u = Value.ref a := rx
  have hm := PySem.W.mapOf_K (prog := X.prog) (w := X.w) I1.kIn hl hk
  refine ⟨hm.typeIs, fun b q => ?_, ?_⟩
  · cases q
    exact ⟨_, I1.kIn a _ hl, rfl⟩
  rw [m.trees]
  refine Calls.callWith_builtin rfl (Calls.evalArgs_plain (Calls.spliced_cons (thn (he.run pins s1 σ H1 _ I1 q1) fun iv s2 ⟨y, H2, I2, ry, z, ov, ey, g, q2⟩ => Calls.spliced_nil ?_)))
  subst ey
  obtain ⟨t, rfl⟩ := ry
  obtain ⟨es', n', u', hl', hk', e', r'⟩ := g
  have hm2 := PySem.W.mapOf_K (prog := X.prog) (w := X.w) I2.kIn hl' hk'
  refine call_meetsIn PySem.F.slot_dict_get hm2.typeIs PySem.F.entry_dict_get (PySem.F.args_dict_get_2 _ _) (meets_dict_get (strKind X.prog X.w) a (strKind_is X.prog X.w z t) hd) ⟨_, hm2, ?_⟩
  rw [PySem.W.find_K hl' e']
  exact ⟨ov.getD .non, H2, I2.tok _, r'.getD rfl, q2⟩
end
/-! ### len(set(xs)) of whole numbers, whichever -/
def tLenSetG (K : PySem.W.Frag) (ta : TE) : TE := fun σ H Q => ta σ H fun x H1 => ∃ (l : Addr) (ns : List Int), x = .ref l ∧ SqL K H1 l (ns.map V.int) ∧ ns.length ≤ 4000 ∧ Q (.int ((firstMet (fun i => ns.getD i 0) ns.length).length : Nat)) H1
theorem pe_lenSetG {X : Cx} {a : Expr} {ta : TE} {p p2 q pos : Pos} (hg : Gl X "len") (hm : X.mg "len" = none) (hg2 : Gl X "set") (hm2 : X.mg "set" = none) (ha : PE X a ta) (hc : X.calm = true := by rfl)
    (na : starEach [a] X.env = (false, eval a X.env) :: starEach [] X.env := by rfl) : PE X (.Call (.Name "len" p) [.Call (.Name "set" p2) [a] [] q] [] pos) (tLenSetG X.K ta) := by
  refine ⟨fun pins s σ H Q I h => ?_⟩
  refine Call_ (ld_blt I hg hm boot_len ?_)
  refine PyProof.Rows.callWith_builtin1 (PyProof.Rows.args_cons ?_ rfl) rfl rfl
  refine Call_ (ld_blt I hg2 hm2 boot_set ?_)
  refine PyProof.Rows.callWith_type1 (PyProof.Rows.args_cons (thn (ha.run pins s σ H _ I h) fun v s1 ⟨x, H1, I1, r1, q1⟩ => PyProof.Rows.args_nil ?_) na) na rfl
  obtain ⟨l, ns, rfl, hq, hl, q1⟩ := q1
  cases r1
  obtain ⟨its, r, pl, hz⟩ := I1.list hq
  have hlen : its.toArray.size = ns.length := by rw [List.size_toArray, ← r.length, List.length_map]
  refine call_set_list (I1.ok.hd hc) pl.isList (by simpa using RZ.intsAre_vals r) (by rw [hlen]; unfold scanBound; omega) fun h' tk hS hk => ?_
  refine PyProof.Rows.args_nil ?_
  rw [hlen] at hS
  obtain ⟨o, es, ep, t, ho, hex, hd, _, _, _, hf, hn⟩ := hS
  have I2 : Inv X pins σ H1 { s1 with heap := h', toks := tk } := I1.kept fun b o e => hk b o (Heap.lt_size e) e
  have hle := firstMet_length_le (fun i => ns.getD i 0) ns.length
  exact call_len_set ho hex hd hf (by rw [hn] <;> omega) ⟨.int ((firstMet (fun i => ns.getD i 0) ns.length).length : Nat), H1, I2.tok _, ⟨_, by rw [hn]⟩, q1⟩
end Gm

set_option maxRecDepth 100000
set_option maxHeartbeats 4000000
namespace Gm
open PySem PySem.Spec PyProof.Rows L2

/-! ### patterns -/
inductive Pat where
  | sign (c : Nat) | any | none | row (p q : Pat) | or (p q : Pat) | more (p : Pat) | less (p : Pat) | group (n : Int) (p : Pat)
def nul : Pat → Bool
  | .sign _ => false
  | .any => false
  | .none => true
  | .row p q => nul p && nul q
  | .or p q => nul p || nul q
  | .more _ => true
  | .less _ => true
  | .group _ p => nul p
def kids : Pat → List Pat
  | .row p q => [p, q]
  | .or p q => [p, q]
  | .more p => [p]
  | .less p => [p]
  | .group _ p => [p]
  | _ => []
def subs : Pat → List Pat
  | .row p q => .row p q :: (subs p ++ subs q)
  | .or p q => .or p q :: (subs p ++ subs q)
  | .more p => .more p :: subs p
  | .less p => .less p :: subs p
  | .group n p => .group n p :: subs p
  | p => [p]
def subsL (W : List Pat) : List Pat := W.flatMap subs
theorem subsL_nil : subsL [] = [] := rfl
theorem subsL_cons (p : Pat) (W : List Pat) : subsL (p :: W) = subs p ++ subsL W := by
  unfold subsL
  rw [List.flatMap_cons]
theorem subsL_app (V W : List Pat) : subsL (V ++ W) = subsL V ++ subsL W := by
  unfold subsL
  rw [List.flatMap_append]
theorem subs_eq (p : Pat) : subs p = p :: subsL (kids p) := by
  cases p <;> simp [subs, kids, subsL]
def siz (p : Pat) : Nat := (subs p).length
theorem siz_pos (p : Pat) : 0 < siz p := by
  unfold siz
  rw [subs_eq]
  exact Nat.succ_pos _
theorem subsL_pos (W : List Pat) : W.length ≤ (subsL W).length := by
  induction W with
  | nil => exact Nat.le_refl _
  | cons p W ih =>
    rw [subsL_cons, List.length_append, List.length_cons]
    have := siz_pos p
    unfold siz at this
    omega
def nm : Pat → Str
  | .sign _ => "sign"
  | .any => "any"
  | .none => "none"
  | .row _ _ => "row"
  | .or _ _ => "or"
  | .more _ => "more"
  | .less _ => "less"
  | .group _ _ => "group"

/-! ### what the answers of the inner ones give -/
def mtn (z : Str) (bs : List Bool) : Bool :=
  if z = "none" ∨ z = "more" ∨ z = "less" then true else if z = "row" ∨ z = "group" then bs.all id else bs.any id
theorem mtn_row (bs : List Bool) : mtn "row" bs = bs.all id := by
  unfold mtn
  rw [if_neg (by decide +kernel), if_pos (by decide +kernel)]
theorem mtn_group (bs : List Bool) : mtn "group" bs = bs.all id := by
  unfold mtn
  rw [if_neg (by decide +kernel), if_pos (by decide +kernel)]
theorem mtn_or (bs : List Bool) : mtn "or" bs = bs.any id := by
  unfold mtn
  rw [if_neg (by decide +kernel), if_neg (by decide +kernel)]
theorem mtn_more (bs : List Bool) : mtn "more" bs = true := by
  unfold mtn
  rw [if_pos (by decide +kernel)]
theorem mtn_less (bs : List Bool) : mtn "less" bs = true := by
  unfold mtn
  rw [if_pos (by decide +kernel)]
def stk : List Pat → List Bool
  | [] => []
  | x :: L => mtn (nm x) ((stk L).take (kids x).length) :: (stk L).drop (kids x).length
def tk : List Pat → List Bool
  | [] => []
  | x :: L => mtn (nm x) ((stk L).take (kids x).length) :: tk L
def okL : List Pat → Prop
  | [] => True
  | x :: L => (kids x).length ≤ (stk L).length ∧ okL L
theorem okL_drop : ∀ (k : Nat) {L : List Pat}, okL L → okL (L.drop k)
  | 0, _, h => h
  | _ + 1, [], _ => trivial
  | k + 1, _ :: L, h => okL_drop k (L := L) h.2
theorem tk_length : ∀ L : List Pat, (tk L).length = L.length
  | [] => rfl
  | x :: L => by
    show (tk L).length + 1 = L.length + 1
    rw [tk_length L]
theorem stk_le : ∀ L : List Pat, (stk L).length ≤ L.length
  | [] => Nat.le_refl _
  | x :: L => by
    show ((stk L).drop _).length + 1 ≤ L.length + 1
    have := stk_le L
    rw [List.length_drop]
    omega
theorem stk_subs : ∀ (p : Pat) (L : List Pat), stk (subs p ++ L) = nul p :: stk L ∧ tk (subs p ++ L) = (subs p).map nul ++ tk L ∧ (okL L → okL (subs p ++ L))
  | .sign c, L => ⟨rfl, rfl, fun h => ⟨Nat.zero_le _, h⟩⟩
  | .any, L => ⟨rfl, rfl, fun h => ⟨Nat.zero_le _, h⟩⟩
  | .none, L => ⟨rfl, rfl, fun h => ⟨Nat.zero_le _, h⟩⟩
  | .row p q, L => by
    obtain ⟨q1, q2, q3⟩ := stk_subs q L
    obtain ⟨p1, p2, p3⟩ := stk_subs p (subs q ++ L)
    have e : subs (.row p q) ++ L = .row p q :: (subs p ++ (subs q ++ L)) := by
      show (_ :: (subs p ++ subs q)) ++ L = _
      rw [List.cons_append, List.append_assoc]
    rw [e]
    refine ⟨?_, ?_, fun h => ⟨?_, p3 (q3 h)⟩⟩
    · show mtn "row" ((stk (subs p ++ (subs q ++ L))).take 2) :: (stk (subs p ++ (subs q ++ L))).drop 2 = _
      rw [p1, q1]
      simp [mtn_row, mtn_or, mtn_more, mtn_less, mtn_group, nul]
    · show mtn "row" ((stk (subs p ++ (subs q ++ L))).take 2) :: tk (subs p ++ (subs q ++ L)) = _
      rw [p1, q1, p2, q2]
      simp [mtn_row, mtn_or, mtn_more, mtn_less, mtn_group, nul, subs]
    · rw [p1, q1]
      show 2 ≤ _
      simp
  | .or p q, L => by
    obtain ⟨q1, q2, q3⟩ := stk_subs q L
    obtain ⟨p1, p2, p3⟩ := stk_subs p (subs q ++ L)
    have e : subs (.or p q) ++ L = .or p q :: (subs p ++ (subs q ++ L)) := by
      show (_ :: (subs p ++ subs q)) ++ L = _
      rw [List.cons_append, List.append_assoc]
    rw [e]
    refine ⟨?_, ?_, fun h => ⟨?_, p3 (q3 h)⟩⟩
    · show mtn "or" ((stk (subs p ++ (subs q ++ L))).take 2) :: (stk (subs p ++ (subs q ++ L))).drop 2 = _
      rw [p1, q1]
      simp [mtn_row, mtn_or, mtn_more, mtn_less, mtn_group, nul]
    · show mtn "or" ((stk (subs p ++ (subs q ++ L))).take 2) :: tk (subs p ++ (subs q ++ L)) = _
      rw [p1, q1, p2, q2]
      simp [mtn_row, mtn_or, mtn_more, mtn_less, mtn_group, nul, subs]
    · rw [p1, q1]
      show 2 ≤ _
      simp
  | .more p, L => by
    obtain ⟨p1, p2, p3⟩ := stk_subs p L
    refine ⟨?_, ?_, fun h => ⟨?_, p3 h⟩⟩
    · show mtn "more" ((stk (subs p ++ L)).take 1) :: (stk (subs p ++ L)).drop 1 = _
      rw [p1]
      simp [mtn_row, mtn_or, mtn_more, mtn_less, mtn_group, nul]
    · show mtn "more" ((stk (subs p ++ L)).take 1) :: tk (subs p ++ L) = _
      rw [p1, p2]
      simp [mtn_row, mtn_or, mtn_more, mtn_less, mtn_group, nul, subs]
    · show 1 ≤ (stk (subs p ++ L)).length
      rw [p1]
      simp
  | .less p, L => by
    obtain ⟨p1, p2, p3⟩ := stk_subs p L
    refine ⟨?_, ?_, fun h => ⟨?_, p3 h⟩⟩
    · show mtn "less" ((stk (subs p ++ L)).take 1) :: (stk (subs p ++ L)).drop 1 = _
      rw [p1]
      simp [mtn_row, mtn_or, mtn_more, mtn_less, mtn_group, nul]
    · show mtn "less" ((stk (subs p ++ L)).take 1) :: tk (subs p ++ L) = _
      rw [p1, p2]
      simp [mtn_row, mtn_or, mtn_more, mtn_less, mtn_group, nul, subs]
    · show 1 ≤ (stk (subs p ++ L)).length
      rw [p1]
      simp
  | .group n p, L => by
    obtain ⟨p1, p2, p3⟩ := stk_subs p L
    refine ⟨?_, ?_, fun h => ⟨?_, p3 h⟩⟩
    · show mtn "group" ((stk (subs p ++ L)).take 1) :: (stk (subs p ++ L)).drop 1 = _
      rw [p1]
      simp [mtn_row, mtn_or, mtn_more, mtn_less, mtn_group, nul]
    · show mtn "group" ((stk (subs p ++ L)).take 1) :: tk (subs p ++ L) = _
      rw [p1, p2]
      simp [mtn_row, mtn_or, mtn_more, mtn_less, mtn_group, nul, subs]
    · show 1 ≤ (stk (subs p ++ L)).length
      rw [p1]
      simp

/-! ### a pattern in memory -/
section
variable {K : PySem.W.Frag}
/-- tuples stay -/
def TS (K : PySem.W.Frag) (H H' : Hp) : Prop := ∀ a xs, SqT K H a xs → SqT K H' a xs
theorem TS.refl {H : Hp} : TS K H H := fun _ _ h => h
theorem TS.trans {H H1 H2 : Hp} (a : TS K H H1) (b : TS K H1 H2) : TS K H H2 := fun x o h => b x o (a x o h)
theorem TS.of {H H' : Hp} (e : Same H H') : TS K H H' := fun a xs h => by
  rcases h with (h | ⟨o, h⟩) | h
  · exact .inl (.inl (e _ _ h))
  · exact .inl (.inr ⟨o, e _ _ h⟩)
  · exact .inr h
theorem same_new {H : Hp} {p : Addr} {o : HO} (h : H p = none) : Same H (upd H p o) := fun b u q => by
  rw [upd_ne (ne_of_none q h)]
  exact q
theorem TS.new {H : Hp} {p : Addr} {o : HO} (h : H p = none) : TS K H (upd H p o) := TS.of (same_new h)
/-- a list that changes -/
theorem TS.lst {H : Hp} {l : Addr} {xs ys : List V} (h : H l = some (.lst xs)) : TS K H (upd H l (.lst ys)) := fun a zs q => by
  have n : ∀ {o : HO}, H a = some o → o ≠ .lst xs → a ≠ l := fun e d z => by
    rw [z, h] at e
    exact d (Option.some.inj e).symm
  rcases q with (q | ⟨o, q⟩) | q
  · exact .inl (.inl (by rw [upd_ne (n q (fun z => nomatch z))]; exact q))
  · exact .inl (.inr ⟨o, by rw [upd_ne (n q (fun z => nomatch z))]; exact q⟩)
  · exact .inr q
/-- an object that H does not know may change -/
theorem Same.mut {H H' : Hp} {p : Addr} {o : HO} (e : Same H H') (h : H p = none) : Same H (upd H' p o) := fun a u ha => by
  rw [upd_ne (ne_of_none ha h)]
  exact e a u ha

def PAt (K : PySem.W.Frag) (H : Hp) : Pat → V → Prop
  | .sign c, v => ∃ a, v = .ref a ∧ c < 0x110000 ∧ SqT K H a [.str "sign", .str ⟨#[c]⟩]
  | .any, v => ∃ a, v = .ref a ∧ SqT K H a [.str "any"]
  | .none, v => ∃ a, v = .ref a ∧ SqT K H a [.str "none"]
  | .row p q, v => ∃ a x y, v = .ref a ∧ SqT K H a [.str "row", x, y] ∧ PAt K H p x ∧ PAt K H q y
  | .or p q, v => ∃ a x y, v = .ref a ∧ SqT K H a [.str "or", x, y] ∧ PAt K H p x ∧ PAt K H q y
  | .more p, v => ∃ a x, v = .ref a ∧ SqT K H a [.str "more", x] ∧ PAt K H p x
  | .less p, v => ∃ a x, v = .ref a ∧ SqT K H a [.str "less", x] ∧ PAt K H p x
  | .group n p, v => ∃ a x, v = .ref a ∧ 1 ≤ n ∧ SqT K H a [.str "group", .int n, x] ∧ PAt K H p x
theorem PAt.mono {H H' : Hp} (e : TS K H H') : ∀ {p : Pat} {v : V}, PAt K H p v → PAt K H' p v
  | .sign _, _, ⟨a, h, c, t⟩ => ⟨a, h, c, e _ _ t⟩
  | .any, _, ⟨a, h, t⟩ => ⟨a, h, e _ _ t⟩
  | .none, _, ⟨a, h, t⟩ => ⟨a, h, e _ _ t⟩
  | .row _ _, _, ⟨a, x, y, h, t, u, w⟩ => ⟨a, x, y, h, e _ _ t, PAt.mono e u, PAt.mono e w⟩
  | .or _ _, _, ⟨a, x, y, h, t, u, w⟩ => ⟨a, x, y, h, e _ _ t, PAt.mono e u, PAt.mono e w⟩
  | .more _, _, ⟨a, x, h, t, u⟩ => ⟨a, x, h, e _ _ t, PAt.mono e u⟩
  | .less _, _, ⟨a, x, h, t, u⟩ => ⟨a, x, h, e _ _ t, PAt.mono e u⟩
  | .group _ _, _, ⟨a, x, h, n, t, u⟩ => ⟨a, x, h, n, e _ _ t, PAt.mono e u⟩
def PAts (K : PySem.W.Frag) (H : Hp) : List Pat → List V → Prop := Paired (PAt K H)
theorem PAts.mono {H H' : Hp} (e : TS K H H') {L : List Pat} {vs : List V} (h : PAts K H L vs) : PAts K H' L vs := Paired.mapP h fun _ _ z => z.mono e
/-- what stands between the name and the inner patterns -/
def mid : Pat → List V
  | .sign c => [.str ⟨#[c]⟩]
  | .group n _ => [.int n]
  | _ => []
theorem PAt.node {H : Hp} {p : Pat} {v : V} (h : PAt K H p v) : ∃ a ws, v = .ref a ∧ SqT K H a (.str (nm p) :: (mid p ++ ws)) ∧ PAts K H (kids p) ws := by
  cases p with
  | sign c => obtain ⟨a, h, _, t⟩ := h; exact ⟨a, [], h, t, .nil⟩
  | any => obtain ⟨a, h, t⟩ := h; exact ⟨a, [], h, t, .nil⟩
  | none => obtain ⟨a, h, t⟩ := h; exact ⟨a, [], h, t, .nil⟩
  | row p q => obtain ⟨a, x, y, h, t, u, w⟩ := h; exact ⟨a, [x, y], h, t, .cons u (.cons w .nil)⟩
  | or p q => obtain ⟨a, x, y, h, t, u, w⟩ := h; exact ⟨a, [x, y], h, t, .cons u (.cons w .nil)⟩
  | more p => obtain ⟨a, x, h, t, u⟩ := h; exact ⟨a, [x], h, t, .cons u .nil⟩
  | less p => obtain ⟨a, x, h, t, u⟩ := h; exact ⟨a, [x], h, t, .cons u .nil⟩
  | group n p => obtain ⟨a, x, h, _, t, u⟩ := h; exact ⟨a, [x], h, t, .cons u .nil⟩
theorem PAt.num {H : Hp} {n : Int} {p : Pat} {v : V} (h : PAt K H (.group n p) v) : 1 ≤ n := by
  obtain ⟨_, _, _, h, _⟩ := h
  exact h
theorem Paired.app {α β : Type} {F : α → β → Prop} : ∀ {l₁ : List α} {l₂ : List β} {m₁ : List α} {m₂ : List β}, Paired F l₁ l₂ → Paired F m₁ m₂ → Paired F (l₁ ++ m₁) (l₂ ++ m₂)
  | _, _, _, _, .nil, h => h
  | _, _, _, _, .cons a t, h => .cons a (Paired.app t h)
theorem Paired.rev {α β : Type} {F : α → β → Prop} : ∀ {l₁ : List α} {l₂ : List β}, Paired F l₁ l₂ → Paired F l₁.reverse l₂.reverse
  | _, _, .nil => .nil
  | _, _, .cons a t => by
    rw [List.reverse_cons, List.reverse_cons]
    exact Paired.snoc (Paired.rev t) a
theorem Paired.at {α β : Type} {F : α → β → Prop} : ∀ {l₁ : List α} {l₂ : List β} {i : Nat} {y : β}, Paired F l₁ l₂ → l₂[i]? = some y → ∃ x, l₁[i]? = some x ∧ F x y
  | _, _, _, _, .nil, h => by simp at h
  | _, _, 0, y, .cons a _, h => ⟨_, rfl, by rw [← Option.some.inj h]; exact a⟩
  | _, _, i + 1, y, .cons _ t, h => Paired.at (i := i) t h
/-- the last one -/
theorem Paired.last {α β : Type} {F : α → β → Prop} {ps : List α} {vs : List β} (h : Paired F ps vs) (n : 0 < ps.length) : ∃ ps' p vs' v, ps = ps' ++ [p] ∧ vs = vs' ++ [v] ∧ Paired F ps' vs' ∧ F p v := by
  have r := Paired.rev h
  have e1 : ps.reverse.reverse = ps := List.reverse_reverse ps
  have e2 : vs.reverse.reverse = vs := List.reverse_reverse vs
  generalize ps.reverse = ps' at r e1
  generalize vs.reverse = vs' at r e2
  cases r with
  | nil =>
    rw [← e1] at n
    exact absurd n (Nat.lt_irrefl 0)
  | @cons a b l m f t =>
    rw [List.reverse_cons] at e1 e2
    exact ⟨l.reverse, a, m.reverse, b, e1.symm, e2.symm, Paired.rev t, f⟩

/-! ### the law's pieces -/
def cellAt (ns : List Int) (k : Nat) : Int := ns.getD k 0
def tabS : Str := (" !\"#$&'()*+,-./0123456789:;<=>?@ABCDEFGHIJKLMNOPQRSTUVWXYZ[\\]^_`" : Str) ++ ("abcdefghijklmnopqrstuvwxyz{|}~\n" : Str)
theorem tab_len : tabS.length = 95 := by decide +kernel
theorem tab_len' : tabS.cps.toList.length = 95 := by decide +kernel
def lsg (c : Int) : Nat := tabS.cps.toList.getD (c % 95).toNat 0
theorem lsg_at (c : Int) : atI tabS.cps.toList (c % 95) = some (lsg c) := by
  have h0 : 0 ≤ c % 95 := Int.emod_nonneg _ (by decide)
  have h1 : c % 95 < 95 := Int.emod_lt_of_pos _ (by decide)
  have hk : (c % 95).toNat < tabS.cps.toList.length := by
    rw [tab_len']
    omega
  have e : c % 95 = (((c % 95).toNat : Nat) : Int) := by omega
  have q : tabS.cps.toList[(c % 95).toNat]? = some (lsg c) := by
    unfold lsg
    rw [List.getD_eq_getElem?_getD, List.getElem?_eq_getElem hk]
    rfl
  rw [e]
  exact atI_nat q
theorem tab_small : tabS.cps.toList.all (fun c => decide (c < 0x110000)) = true := by decide +kernel
theorem lsg_lt (c : Int) : lsg c < 0x110000 := by
  have h := lsg_at c
  have h0 : 0 ≤ c % 95 := Int.emod_nonneg _ (by decide)
  have h1 : c % 95 < 95 := Int.emod_lt_of_pos _ (by decide)
  unfold lsg
  rw [List.getD_eq_getElem?_getD]
  cases e : tabS.cps.toList[(c % 95).toNat]? with
  | none => exact (by decide : (0 : Nat) < 0x110000)
  | some k =>
    have hm := List.mem_of_getElem? e
    exact of_decide_eq_true (List.all_eq_true.mp tab_small k hm)
/-! ### readings in short -/
theorem or2 {t u : TT} {σ : L2.St} {H : Hp} {b1 b2 : Bool} {Q : Bool → Hp → Prop} (h1 : ∀ Q : Bool → Hp → Prop, Q b1 H → t σ H Q) (h2 : ∀ Q : Bool → Hp → Prop, Q b2 H → u σ H Q) (q : Q (b1 || b2) H) : tOr t u σ H Q := by
  refine h1 _ ?_
  cases b1
  · exact iteF (h2 Q q)
  · exact iteT q
theorem and2 {t u : TT} {σ : L2.St} {H : Hp} {b1 b2 : Bool} {Q : Bool → Hp → Prop} (h1 : ∀ Q : Bool → Hp → Prop, Q b1 H → t σ H Q) (h2 : ∀ Q : Bool → Hp → Prop, Q b2 H → u σ H Q) (q : Q (b1 && b2) H) : tAnd t u σ H Q := by
  refine h1 _ ?_
  cases b1
  · exact iteF q
  · exact iteT (h2 Q q)
theorem g_nx {i : Nat} {v : V} {σ : L2.St} {H : Hp} {a : L2.St → Hp → Prop} {b : VK} {c d : L2.St → Hp → Prop} (h : a (σ.set i (some v)) H) : gName i v σ H (L2.Ends.mk a b c d).nx := h
theorem e_nx {σ : L2.St} {H : Hp} {a : L2.St → Hp → Prop} {b : VK} {c d : L2.St → Hp → Prop} (h : a σ H) : (L2.Ends.mk a b c d).nx σ H := h
theorem g_name {i : Nat} {v : V} {σ : L2.St} {H : Hp} {Q : L2.St → Hp → Prop} (h : Q (σ.set i (some v)) H) : gName i v σ H Q := h
/-- a test that leaves all as it is -/
def Tst (t : TT) (σ : L2.St) (H : Hp) (b : Bool) : Prop := ∀ Q : Bool → Hp → Prop, Q b H → t σ H Q
theorem if_tst {c : TT} {x y : L2.TS} {D : L2.Ends} {σ : L2.St} {H : Hp} {b : Bool} (h : Tst c σ H b) (q1 : b = true → x D σ H) (q2 : b = false → y D σ H) : tIfS c x y D σ H := by
  refine h _ ?_
  cases b
  · exact iteF (q2 rfl)
  · exact iteT (q1 rfl)
theorem tst_or {t u : TT} {σ : L2.St} {H : Hp} {b1 b2 : Bool} (h1 : Tst t σ H b1) (h2 : Tst u σ H b2) : Tst (tOr t u) σ H (b1 || b2) := fun Q q => or2 h1 h2 q
theorem tst_and {t u : TT} {σ : L2.St} {H : Hp} {b1 b2 : Bool} (h1 : Tst t σ H b1) (h2 : Tst u σ H b2) : Tst (tAnd t u) σ H (b1 && b2) := fun Q q => and2 h1 h2 q
theorem yes_if {A B : Hp → Prop} {σ : L2.St} {H : Hp} (h : A H) : tYes σ H (fun b H3 => if b = true then A H3 else B H3) := by
  show if true = true then A H else B H
  rw [if_pos rfl]
  exact h
theorem at0 {α : Type} {xs : List α} {v : α} (h : xs[0]? = some v) : atI xs 0 = some v := atI_nat (j := 0) h
theorem at1 {α : Type} {xs : List α} {v : α} (h : xs[1]? = some v) : atI xs 1 = some v := atI_nat (j := 1) h
theorem at2 {α : Type} {xs : List α} {v : α} (h : xs[2]? = some v) : atI xs 2 = some v := atI_nat (j := 2) h
theorem last_get {α : Type} (xs : List α) (y : α) : (xs ++ [y])[(xs ++ [y]).length - 1]? = some y := by simp
theorem r_pop {H : Hp} {l : Addr} {xs : List V} {y : V} {Q : VK} (h : H l = some (.lst (xs ++ [y]))) (q : Q y (upd H l (.lst xs))) : rPop (.ref l) [] H Q := by
  refine ⟨l, xs ++ [y], y, rfl, rfl, h, by simp, ?_⟩
  rw [List.dropLast_concat]
  exact q
theorem r_ixT {H : Hp} {a : Addr} {xs : List V} {v : V} {Q : VK} (i : Nat) (h : SqT K H a xs) (e : xs[i]? = some v) (q : Q v H) : rIxT K (.ref a) (.int (i : Int)) H Q := ⟨a, xs, i, v, rfl, rfl, h, atI_nat e, q⟩
theorem r_ixL {H : Hp} {a : Addr} {xs : List V} {v : V} {Q : VK} (i : Nat) (h : SqL K H a xs) (e : xs[i]? = some v) (q : Q v H) : rIxL K (.ref a) (.int (i : Int)) H Q := ⟨a, xs, i, v, rfl, rfl, h, atI_nat e, q⟩
theorem sz {n : Nat} (h : n ≤ 10000) : n ≤ sizeLine := Nat.le_trans h (by decide)
theorem szl {n : Nat} (h : n ≤ 10000) : n < sizeLine := Nat.lt_of_le_of_lt h (by decide)
theorem inV3 (z a b c : Str) : inV (.str z) [.str a, .str b, .str c] = decide (z = a ∨ z = b ∨ z = c) := by
  rw [Bool.eq_iff_iff]
  show ((a == z) || ((b == z) || ((c == z) || false))) = true ↔ _
  simp only [Bool.or_eq_true, beq_iff_eq, Bool.or_false, decide_eq_true_eq]
  constructor
  · rintro (h | h | h)
    · exact .inl h.symm
    · exact .inr (.inl h.symm)
    · exact .inr (.inr h.symm)
  · rintro (h | h | h)
    · exact .inl h.symm
    · exact .inr (.inl h.symm)
    · exact .inr (.inr h.symm)
theorem inV2 (z a b : Str) : inV (.str z) [.str a, .str b] = decide (z = a ∨ z = b) := by
  rw [Bool.eq_iff_iff]
  show ((a == z) || ((b == z) || false)) = true ↔ _
  simp only [Bool.or_eq_true, beq_iff_eq, Bool.or_false, decide_eq_true_eq]
  constructor
  · rintro (h | h)
    · exact .inl h.symm
    · exact .inr h.symm
  · rintro (h | h)
    · exact .inl h.symm
    · exact .inr h.symm
/-- x in (a, b, ..), texts -/
theorem r_inT {H : Hp} {x : Str} {p : Addr} {xs : List V} {Q : VK} (h : SqT K H p xs) (f : xs.all flatV = true) (q : Q (.bl (inV (.str x) xs)) H) : rIn K false (.str x) (.ref p) H Q := ⟨p, xs, rfl, .inr h, rfl, f, q⟩
def tot (ps : List Pat) : Nat := (ps.map siz).sum
theorem tot_snoc (ps : List Pat) (p : Pat) : tot (ps ++ [p]) = tot ps + siz p := by
  unfold tot
  simp
theorem tot_nil : tot [] = 0 := rfl
theorem len_tot : ∀ ps : List Pat, ps.length ≤ tot ps
  | [] => Nat.le_refl _
  | p :: ps => by
    have h := len_tot ps
    have := siz_pos p
    show ps.length + 1 ≤ (siz p :: ps.map siz).sum
    rw [List.sum_cons]
    unfold tot at h
    omega
/-- one on the pile: the pattern, and whether it may take nothing -/
def Ent (K : PySem.W.Frag) (H : Hp) (p : Pat) (v : V) : Prop := ∃ t x, v = .ref t ∧ SqT K H t [x, .bl (nul p)] ∧ PAt K H p x
theorem Ent.mono {H H' : Hp} (e : TS K H H') {p : Pat} {v : V} : Ent K H p v → Ent K H' p v
  | ⟨t, x, h, q, u⟩ => ⟨t, x, h, e _ _ q, u.mono e⟩
theorem Ent.mk {H : Hp} {p : Pat} {t : Addr} {x : V} {b : Bool} (n : H t = none) (u : PAt K H p x) (e : nul p = b) : Ent K (upd H t (.tup [x, .bl b])) p (.ref t) := by
  subst e
  exact ⟨t, x, rfl, SqT.of upd_same, u.mono (TS.new n)⟩
end

/-! ### depths, data -/
def dep : Pat → Nat
  | .row p q => 1 + max (dep p) (dep q)
  | .or p q => 1 + max (dep p) (dep q)
  | .more p => 1 + dep p
  | .less p => 1 + dep p
  | .group _ p => 1 + dep p
  | _ => 1
theorem dep_pos (p : Pat) : 0 < dep p := by cases p <;> simp only [dep] <;> omega
def pd : Pat → PyData
  | .sign c => .tuple [.str "sign", .str ⟨#[c]⟩]
  | .any => .tuple [.str "any"]
  | .none => .tuple [.str "none"]
  | .row p q => .tuple [.str "row", pd p, pd q]
  | .or p q => .tuple [.str "or", pd p, pd q]
  | .more p => .tuple [.str "more", pd p]
  | .less p => .tuple [.str "less", pd p]
  | .group n p => .tuple [.str "group", .int n, pd p]
section
variable {K : PySem.W.Frag} {H : Hp}
theorem PAt.dp : ∀ {p : Pat} {v : V}, PAt K H p v → Dp K H v (pd p)
  | .sign _, _, ⟨_, h, _, t⟩ => by rw [h]; exact .tup t (.cons (.str _) (.cons (.str _) .nil))
  | .any, _, ⟨_, h, t⟩ => by rw [h]; exact .tup t (.cons (.str _) .nil)
  | .none, _, ⟨_, h, t⟩ => by rw [h]; exact .tup t (.cons (.str _) .nil)
  | .row _ _, _, ⟨_, _, _, h, t, u, w⟩ => by rw [h]; exact .tup t (.cons (.str _) (.cons (PAt.dp u) (.cons (PAt.dp w) .nil)))
  | .or _ _, _, ⟨_, _, _, h, t, u, w⟩ => by rw [h]; exact .tup t (.cons (.str _) (.cons (PAt.dp u) (.cons (PAt.dp w) .nil)))
  | .more _, _, ⟨_, _, h, t, u⟩ => by rw [h]; exact .tup t (.cons (.str _) (.cons (PAt.dp u) .nil))
  | .less _, _, ⟨_, _, h, t, u⟩ => by rw [h]; exact .tup t (.cons (.str _) (.cons (PAt.dp u) .nil))
  | .group _ _, _, ⟨_, _, h, _, t, u⟩ => by rw [h]; exact .tup t (.cons (.str _) (.cons (.int _) (.cons (PAt.dp u) .nil)))
theorem PAts.dp : ∀ {L : List Pat} {vs : List V}, PAts K H L vs → DpAll K H vs (L.map pd)
  | _, _, .nil => .nil
  | _, _, .cons h t => .cons h.dp (PAts.dp t)
theorem lay_cons {x : PyData} {xs : List PyData} (h : x.canLay0 = true) (t : PyData.canLayAll0 xs = true) : PyData.canLayAll0 (x :: xs) = true := by
  rw [PyData.canLayAll0, h, t]
  rfl
theorem lay_nil : PyData.canLayAll0 [] = true := by rw [PyData.canLayAll0]
theorem lay_tup {xs : List PyData} (h : PyData.canLayAll0 xs = true) : (PyData.tuple xs).canLay0 = true := by
  rw [PyData.canLay0]
  exact h
theorem lay_list {xs : List PyData} (h : PyData.canLayAll0 xs = true) : (PyData.list xs).canLay0 = true := by
  rw [PyData.canLay0]
  exact h
theorem lay_str {x : Str} (h : PyData.strOk x = true) : (PyData.str x).canLay0 = true := by
  rw [PyData.canLay0]
  exact h
theorem lay_int (i : Int) : (PyData.int i).canLay0 = true := by rw [PyData.canLay0]
theorem ok_chr {c : Nat} (h : c < 0x110000) : PyData.strOk ⟨#[c]⟩ = true := by
  unfold PyData.strOk
  simp [h]
theorem PAt.lay : ∀ {p : Pat} {v : V}, PAt K H p v → (pd p).canLay0 = true
  | .sign _, _, ⟨_, _, c, _⟩ => lay_tup (lay_cons (lay_str (by decide +kernel)) (lay_cons (lay_str (ok_chr c)) lay_nil))
  | .any, _, _ => lay_tup (lay_cons (lay_str (by decide +kernel)) lay_nil)
  | .none, _, _ => lay_tup (lay_cons (lay_str (by decide +kernel)) lay_nil)
  | .row _ _, _, ⟨_, _, _, _, _, u, w⟩ => lay_tup (lay_cons (lay_str (by decide +kernel)) (lay_cons (PAt.lay u) (lay_cons (PAt.lay w) lay_nil)))
  | .or _ _, _, ⟨_, _, _, _, _, u, w⟩ => lay_tup (lay_cons (lay_str (by decide +kernel)) (lay_cons (PAt.lay u) (lay_cons (PAt.lay w) lay_nil)))
  | .more _, _, ⟨_, _, _, _, u⟩ => lay_tup (lay_cons (lay_str (by decide +kernel)) (lay_cons (PAt.lay u) lay_nil))
  | .less _, _, ⟨_, _, _, _, u⟩ => lay_tup (lay_cons (lay_str (by decide +kernel)) (lay_cons (PAt.lay u) lay_nil))
  | .group _ _, _, ⟨_, _, _, _, _, u⟩ => lay_tup (lay_cons (lay_str (by decide +kernel)) (lay_cons (lay_int _) (lay_cons (PAt.lay u) lay_nil)))
theorem PAts.lay : ∀ {L : List Pat} {vs : List V}, PAts K H L vs → PyData.canLayAll0 (L.map pd) = true
  | _, _, .nil => lay_nil
  | _, _, .cons h t => lay_cons h.lay (PAts.lay t)
theorem pd_depth : ∀ p : Pat, (pd p).depth ≤ dep p
  | .sign _ => by simp [pd, dep, PyData.depth, PyData.depthAll]
  | .any => by simp [pd, dep, PyData.depth, PyData.depthAll]
  | .none => by simp [pd, dep, PyData.depth, PyData.depthAll]
  | .row p q => by
    have h1 := pd_depth p
    have h2 := pd_depth q
    simp only [pd, dep, PyData.depth, PyData.depthAll]
    omega
  | .or p q => by
    have h1 := pd_depth p
    have h2 := pd_depth q
    simp only [pd, dep, PyData.depth, PyData.depthAll]
    omega
  | .more p => by
    have h1 := pd_depth p
    simp only [pd, dep, PyData.depth, PyData.depthAll]
    omega
  | .less p => by
    have h1 := pd_depth p
    simp only [pd, dep, PyData.depth, PyData.depthAll]
    omega
  | .group n p => by
    have h1 := pd_depth p
    simp only [pd, dep, PyData.depth, PyData.depthAll]
    omega
theorem depthAll_app : ∀ xs ys : List PyData, PyData.depthAll (xs ++ ys) = max (PyData.depthAll xs) (PyData.depthAll ys)
  | [], ys => by simp [PyData.depthAll]
  | x :: xs, ys => by
    have h := depthAll_app xs ys
    simp only [List.cons_append, PyData.depthAll, h]
    omega
theorem subs_depth : ∀ p : Pat, PyData.depthAll ((subs p).map pd) ≤ dep p
  | .sign c => by
    have h := pd_depth (.sign c)
    simp only [subs, List.map, PyData.depthAll]
    omega
  | .any => by
    have h := pd_depth .any
    simp only [subs, List.map, PyData.depthAll]
    omega
  | .none => by
    have h := pd_depth .none
    simp only [subs, List.map, PyData.depthAll]
    omega
  | .row p q => by
    have h := pd_depth (.row p q)
    have h1 := subs_depth p
    have h2 := subs_depth q
    simp only [subs, List.map_cons, List.map_append, PyData.depthAll, depthAll_app]
    simp only [dep] at *
    omega
  | .or p q => by
    have h := pd_depth (.or p q)
    have h1 := subs_depth p
    have h2 := subs_depth q
    simp only [subs, List.map_cons, List.map_append, PyData.depthAll, depthAll_app]
    simp only [dep] at *
    omega
  | .more p => by
    have h := pd_depth (.more p)
    have h1 := subs_depth p
    simp only [subs, List.map_cons, PyData.depthAll]
    simp only [dep] at *
    omega
  | .less p => by
    have h := pd_depth (.less p)
    have h1 := subs_depth p
    simp only [subs, List.map_cons, PyData.depthAll]
    simp only [dep] at *
    omega
  | .group n p => by
    have h := pd_depth (.group n p)
    have h1 := subs_depth p
    simp only [subs, List.map_cons, PyData.depthAll]
    simp only [dep] at *
    omega
theorem shaped_of {d : PyData} (h : d.canLay0 = true) (z : d.depth ≤ 64) : SeqAt.shaped d = true := by
  unfold SeqAt.shaped
  rw [h, decide_eq_true z]
  rfl
theorem list_depth {xs : List PyData} {n : Nat} (h : PyData.depthAll xs ≤ n) : (PyData.list xs).depth ≤ 1 + n := by
  simp only [PyData.depth]
  omega
theorem ints_dp : ∀ ns : List Int, DpAll K H (ns.map V.int) (ns.map PyData.int)
  | [] => .nil
  | _ :: r => .cons (.int _) (ints_dp r)
theorem ints_lay : ∀ ns : List Int, PyData.canLayAll0 (ns.map PyData.int) = true
  | [] => lay_nil
  | _ :: r => lay_cons (lay_int _) (ints_lay r)
theorem ints_depth : ∀ ns : List Int, PyData.depthAll (ns.map PyData.int) = 0
  | [] => by simp [PyData.depthAll]
  | _ :: r => by simp [PyData.depthAll, PyData.depth, ints_depth r]
end
/-- the numbers of the groups among some parts -/
def nums (L : List Pat) : List Int := L.filterMap fun p => match p with
  | .group n _ => some n
  | _ => none
theorem siz_row (p q : Pat) : siz (.row p q) = 1 + siz p + siz q := by
  show (_ :: (subs p ++ subs q)).length = _
  rw [List.length_cons, List.length_append]
  unfold siz
  omega
theorem siz_or (p q : Pat) : siz (.or p q) = 1 + siz p + siz q := siz_row p q
theorem siz_more (p : Pat) : siz (.more p) = 1 + siz p := by
  show (_ :: subs p).length = _
  rw [List.length_cons]
  unfold siz
  omega
theorem siz_less (p : Pat) : siz (.less p) = 1 + siz p := siz_more p
theorem siz_group (n : Int) (p : Pat) : siz (.group n p) = 1 + siz p := siz_more p
/-! ### twins, empty rounds -/
theorem firstMet_full {ns : List Int} : ∀ {i : Nat}, i ≤ ns.length → (firstMet (fun i => ns.getD i 0) i).length = i → firstMet (fun i => ns.getD i 0) i = ns.take i ∧ (ns.take i).Nodup
  | 0, _, _ => ⟨rfl, by rw [List.take_zero]; exact List.nodup_nil⟩
  | i + 1, hi, h => by
    have hlt : i < ns.length := hi
    have hle := firstMet_length_le (fun i => ns.getD i 0) i
    have e1 : ns.getD i 0 = ns[i] := by
      rw [List.getD_eq_getElem?_getD, List.getElem?_eq_getElem hlt] <;> rfl
    have e2 : ns.take (i + 1) = ns.take i ++ [ns[i]] := by
      rw [List.take_add_one, List.getElem?_eq_getElem hlt] <;> rfl
    rw [firstMet_succ] at h ⊢
    unfold step_dedup at h ⊢
    by_cases c : (firstMet (fun i => ns.getD i 0) i).any (· == ns.getD i 0) = true
    · rw [if_pos c] at h
      omega
    · rw [if_neg c] at h ⊢
      rw [List.length_append, List.length_singleton] at h
      obtain ⟨q1, q2⟩ := firstMet_full (ns := ns) (i := i) (by omega) (by omega)
      rw [q1] at c ⊢
      rw [e1] at c ⊢
      rw [e2]
      refine ⟨rfl, ?_⟩
      rw [List.nodup_append]
      refine ⟨q2, by simp, fun a ha b hb => ?_⟩
      obtain rfl := List.mem_singleton.mp hb
      intro e
      exact c (List.any_eq_true.mpr ⟨a, ha, by rw [e]; exact beq_self_eq_true _⟩)
theorem twins_iff (ns : List Int) : ((firstMet (fun i => ns.getD i 0) ns.length).length : Int) < (ns.length : Int) ↔ ¬ ns.Nodup := by
  have hle := firstMet_length_le (fun i => ns.getD i 0) ns.length
  constructor
  · intro h hn
    rw [RZ.firstMet_nodup hn ns.length (Nat.le_refl _), List.take_length] at h
    omega
  · intro h
    by_cases e : (firstMet (fun i => ns.getD i 0) ns.length).length = ns.length
    · have := (firstMet_full (Nat.le_refl _) e).2
      rw [List.take_length] at this
      exact absurd this h
    · omega
/-- for each more and less: whether its p may take nothing -/
def erl (L : List Pat) : List Bool := L.filterMap fun x => match x with
  | .more q => some (nul q)
  | .less q => some (nul q)
  | _ => none
theorem next_part : ∀ (p : Pat) (R : List Pat) (i : Nat) (q : Pat), i < siz p → ((subs p ++ R)[i]? = some (.more q) ∨ (subs p ++ R)[i]? = some (.less q)) → (subs p ++ R)[i + 1]? = some q
  | .sign c, R, i, q, hi, h => by
    obtain rfl : i = 0 := by have : i < 1 := hi; omega
    rcases h with h | h <;> exact nomatch Option.some.inj h
  | .any, R, i, q, hi, h => by
    obtain rfl : i = 0 := by have : i < 1 := hi; omega
    rcases h with h | h <;> exact nomatch Option.some.inj h
  | .none, R, i, q, hi, h => by
    obtain rfl : i = 0 := by have : i < 1 := hi; omega
    rcases h with h | h <;> exact nomatch Option.some.inj h
  | .row p1 p2, R, i, q, hi, h => by
    rw [siz_row] at hi
    have e : subs (.row p1 p2) ++ R = .row p1 p2 :: (subs p1 ++ (subs p2 ++ R)) := by
      show (_ :: (subs p1 ++ subs p2)) ++ R = _
      rw [List.cons_append, List.append_assoc]
    rw [e] at h ⊢
    cases i with
    | zero => rcases h with h | h <;> exact nomatch Option.some.inj h
    | succ j =>
      rw [List.getElem?_cons_succ] at h ⊢
      by_cases hj : j < siz p1
      · exact next_part p1 _ j q hj h
      · have hl : (subs p1).length = siz p1 := rfl
        rw [List.getElem?_append_right (by omega)] at h ⊢
        have e2 : j + 1 - (subs p1).length = (j - (subs p1).length) + 1 := by omega
        rw [e2]
        exact next_part p2 R _ q (by omega) h
  | .or p1 p2, R, i, q, hi, h => by
    rw [siz_or] at hi
    have e : subs (.or p1 p2) ++ R = .or p1 p2 :: (subs p1 ++ (subs p2 ++ R)) := by
      show (_ :: (subs p1 ++ subs p2)) ++ R = _
      rw [List.cons_append, List.append_assoc]
    rw [e] at h ⊢
    cases i with
    | zero => rcases h with h | h <;> exact nomatch Option.some.inj h
    | succ j =>
      rw [List.getElem?_cons_succ] at h ⊢
      by_cases hj : j < siz p1
      · exact next_part p1 _ j q hj h
      · have hl : (subs p1).length = siz p1 := rfl
        rw [List.getElem?_append_right (by omega)] at h ⊢
        have e2 : j + 1 - (subs p1).length = (j - (subs p1).length) + 1 := by omega
        rw [e2]
        exact next_part p2 R _ q (by omega) h
  | .more p, R, i, q, hi, h => by
    rw [siz_more] at hi
    have e : subs (.more p) ++ R = .more p :: (subs p ++ R) := rfl
    rw [e] at h ⊢
    cases i with
    | zero =>
      rcases h with h | h
      · cases Option.some.inj h
        rw [subs_eq]
        rfl
      · exact nomatch Option.some.inj h
    | succ j =>
      rw [List.getElem?_cons_succ] at h ⊢
      exact next_part p R j q (by omega) h
  | .less p, R, i, q, hi, h => by
    rw [siz_less] at hi
    have e : subs (.less p) ++ R = .less p :: (subs p ++ R) := rfl
    rw [e] at h ⊢
    cases i with
    | zero =>
      rcases h with h | h
      · exact nomatch Option.some.inj h
      · cases Option.some.inj h
        rw [subs_eq]
        rfl
    | succ j =>
      rw [List.getElem?_cons_succ] at h ⊢
      exact next_part p R j q (by omega) h
  | .group n p, R, i, q, hi, h => by
    rw [siz_group] at hi
    have e : subs (.group n p) ++ R = .group n p :: (subs p ++ R) := rfl
    rw [e] at h ⊢
    cases i with
    | zero => rcases h with h | h <;> exact nomatch Option.some.inj h
    | succ j =>
      rw [List.getElem?_cons_succ] at h ⊢
      exact next_part p R j q (by omega) h
theorem next_part' {p q : Pat} {i : Nat} (h : (subs p)[i]? = some (.more q) ∨ (subs p)[i]? = some (.less q)) : (subs p)[i + 1]? = some q := by
  have hi : i < siz p := by
    rcases h with h | h
    · exact (List.getElem?_eq_some_iff.mp h).1
    · exact (List.getElem?_eq_some_iff.mp h).1
  have q' := next_part p [] i q hi
  rw [List.append_nil] at q'
  exact q' h
/-- a pattern that is not refused -/
def goodP (p : Pat) : Prop := (nums (subs p)).Nodup ∧ (erl (subs p)).any id = false
end Gm

set_option maxRecDepth 100000
set_option maxHeartbeats 4000000
namespace G1
open PySem PySem.Spec PyProof.Rows L2 Gm
def top (i : Nat) : Stmt := PySem.Challenge.pw_groupmarks_k01_takes_nothing.main.body.getD i (.Pass ⟨0, 0, 0, 0⟩)
abbrev s_parts : Stmt := top 5
abbrev N_parts : List Str := ["pattern", "found", "waiting", "part"]
theorem sc_parts : FnScope N_parts ["pattern"] (defScope s_parts) := ⟨rfl, rfl, rfl, by decide +kernel, rfl, by decide +kernel, by decide +kernel⟩

abbrev s_takes_nothing : Stmt := top 6
abbrev N_takes_nothing : List Str := ["pattern"]
theorem sc_takes_nothing : FnScope N_takes_nothing ["pattern"] (defScope s_takes_nothing) := ⟨rfl, rfl, rfl, by decide +kernel, rfl, by decide +kernel, by decide +kernel⟩

abbrev s__has_form : Stmt := top 7
abbrev N__has_form : List Str := ["thing", "name"]
theorem sc__has_form : FnScope N__has_form ["thing"] (defScope s__has_form) := ⟨rfl, rfl, rfl, by decide +kernel, rfl, by decide +kernel, by decide +kernel⟩

abbrev s__is_sign : Stmt := top 8
abbrev N__is_sign : List Str := ["thing"]
theorem sc__is_sign : FnScope N__is_sign ["thing"] (defScope s__is_sign) := ⟨rfl, rfl, rfl, by decide +kernel, rfl, by decide +kernel, by decide +kernel⟩

abbrev s__is_group_number : Stmt := top 9
abbrev N__is_group_number : List Str := ["thing"]
theorem sc__is_group_number : FnScope N__is_group_number ["thing"] (defScope s__is_group_number) := ⟨rfl, rfl, rfl, by decide +kernel, rfl, by decide +kernel, by decide +kernel⟩

abbrev s__inner : Stmt := top 10
abbrev N__inner : List Str := ["part"]
theorem sc__inner : FnScope N__inner ["part"] (defScope s__inner) := ⟨rfl, rfl, rfl, by decide +kernel, rfl, by decide +kernel, by decide +kernel⟩

abbrev s__takings : Stmt := top 11
abbrev N__takings : List Str := ["found", "takings", "open_answers", "part", "inner_answers", "answer", "_"]
theorem sc__takings : FnScope N__takings ["found"] (defScope s__takings) := ⟨rfl, rfl, rfl, by decide +kernel, rfl, by decide +kernel, by decide +kernel⟩

abbrev s__may_take_nothing : Stmt := top 12
abbrev N__may_take_nothing : List Str := ["name", "inner_answers"]
theorem sc__may_take_nothing : FnScope N__may_take_nothing ["name", "inner_answers"] (defScope s__may_take_nothing) := ⟨rfl, rfl, rfl, by decide +kernel, rfl, by decide +kernel, by decide +kernel⟩

abbrev s__law_cell_at : Stmt := top 14
abbrev N__law_cell_at : List Str := ["_law_script", "_law_k"]
theorem sc__law_cell_at : FnScope N__law_cell_at ["_law_script", "_law_k"] (defScope s__law_cell_at) := ⟨rfl, rfl, rfl, by decide +kernel, rfl, by decide +kernel, by decide +kernel⟩

abbrev s__law_sign : Stmt := top 15
abbrev N__law_sign : List Str := ["_law_cell", "_law_some"]
theorem sc__law_sign : FnScope N__law_sign ["_law_cell"] (defScope s__law_sign) := ⟨rfl, rfl, rfl, by decide +kernel, rfl, by decide +kernel, by decide +kernel⟩

abbrev s__law_leaf : Stmt := top 16
abbrev N__law_leaf : List Str := ["_law_cell", "_law_head"]
theorem sc__law_leaf : FnScope N__law_leaf ["_law_cell", "_law_head"] (defScope s__law_leaf) := ⟨rfl, rfl, rfl, by decide +kernel, rfl, by decide +kernel, by decide +kernel⟩

abbrev s__law_two : Stmt := top 17
abbrev N__law_two : List Str := ["_law_cell", "_law_left", "_law_right"]
theorem sc__law_two : FnScope N__law_two ["_law_cell", "_law_left", "_law_right"] (defScope s__law_two) := ⟨rfl, rfl, rfl, by decide +kernel, rfl, by decide +kernel, by decide +kernel⟩

abbrev s__law_round : Stmt := top 18
abbrev N__law_round : List Str := ["_law_cell", "_law_part", "_law_head", "_law_inside"]
theorem sc__law_round : FnScope N__law_round ["_law_cell", "_law_part", "_law_head"] (defScope s__law_round) := ⟨rfl, rfl, rfl, by decide +kernel, rfl, by decide +kernel, by decide +kernel⟩

abbrev s__law_made : Stmt := top 19
abbrev N__law_made : List Str := ["_law_cells", "_law_head", "_law_pile", "_law_step", "_law_number", "_law_cell", "_law_kind", "_law_right", "_law_part"]
theorem sc__law_made : FnScope N__law_made ["_law_cells", "_law_head"] (defScope s__law_made) := ⟨rfl, rfl, rfl, by decide +kernel, rfl, by decide +kernel, by decide +kernel⟩

abbrev s_law : Stmt := top 20
abbrev N_law : List Str := ["_law_script", "_law_made_here", "_law_found"]
theorem sc_law : FnScope N_law ["_law_script"] (defScope s_law) := ⟨rfl, rfl, rfl, by decide +kernel, rfl, by decide +kernel, by decide +kernel⟩

structure Txt (w : World) (K : PySem.W.Frag) (mg : Str → Option Value) where
  f_parts : Addr
  fd_parts : FuncData
  F_parts : Fun K "parts" "parts" s_parts f_parts fd_parts
  m_parts : mg "parts" = some (.ref f_parts)
  b_parts : Binds K fd_parts ["pattern"] []
  f_takes_nothing : Addr
  fd_takes_nothing : FuncData
  F_takes_nothing : Fun K "takes_nothing" "takes_nothing" s_takes_nothing f_takes_nothing fd_takes_nothing
  m_takes_nothing : mg "takes_nothing" = some (.ref f_takes_nothing)
  b_takes_nothing : Binds K fd_takes_nothing ["pattern"] []
  f__has_form : Addr
  fd__has_form : FuncData
  F__has_form : Fun K "_has_form" "_has_form" s__has_form f__has_form fd__has_form
  m__has_form : mg "_has_form" = some (.ref f__has_form)
  b__has_form : Binds K fd__has_form ["thing"] []
  f__is_sign : Addr
  fd__is_sign : FuncData
  F__is_sign : Fun K "_is_sign" "_is_sign" s__is_sign f__is_sign fd__is_sign
  m__is_sign : mg "_is_sign" = some (.ref f__is_sign)
  b__is_sign : Binds K fd__is_sign ["thing"] []
  f__is_group_number : Addr
  fd__is_group_number : FuncData
  F__is_group_number : Fun K "_is_group_number" "_is_group_number" s__is_group_number f__is_group_number fd__is_group_number
  m__is_group_number : mg "_is_group_number" = some (.ref f__is_group_number)
  b__is_group_number : Binds K fd__is_group_number ["thing"] []
  f__inner : Addr
  fd__inner : FuncData
  F__inner : Fun K "_inner" "_inner" s__inner f__inner fd__inner
  m__inner : mg "_inner" = some (.ref f__inner)
  b__inner : Binds K fd__inner ["part"] []
  f__takings : Addr
  fd__takings : FuncData
  F__takings : Fun K "_takings" "_takings" s__takings f__takings fd__takings
  m__takings : mg "_takings" = some (.ref f__takings)
  b__takings : Binds K fd__takings ["found"] []
  f__may_take_nothing : Addr
  fd__may_take_nothing : FuncData
  F__may_take_nothing : Fun K "_may_take_nothing" "_may_take_nothing" s__may_take_nothing f__may_take_nothing fd__may_take_nothing
  m__may_take_nothing : mg "_may_take_nothing" = some (.ref f__may_take_nothing)
  b__may_take_nothing : Binds K fd__may_take_nothing ["name", "inner_answers"] []
  f__law_cell_at : Addr
  fd__law_cell_at : FuncData
  F__law_cell_at : Fun K "_law_cell_at" "_law_cell_at" s__law_cell_at f__law_cell_at fd__law_cell_at
  m__law_cell_at : mg "_law_cell_at" = some (.ref f__law_cell_at)
  b__law_cell_at : Binds K fd__law_cell_at ["_law_script", "_law_k"] []
  f__law_sign : Addr
  fd__law_sign : FuncData
  F__law_sign : Fun K "_law_sign" "_law_sign" s__law_sign f__law_sign fd__law_sign
  m__law_sign : mg "_law_sign" = some (.ref f__law_sign)
  b__law_sign : Binds K fd__law_sign ["_law_cell"] []
  f__law_leaf : Addr
  fd__law_leaf : FuncData
  F__law_leaf : Fun K "_law_leaf" "_law_leaf" s__law_leaf f__law_leaf fd__law_leaf
  m__law_leaf : mg "_law_leaf" = some (.ref f__law_leaf)
  b__law_leaf : Binds K fd__law_leaf ["_law_cell", "_law_head"] []
  f__law_two : Addr
  fd__law_two : FuncData
  F__law_two : Fun K "_law_two" "_law_two" s__law_two f__law_two fd__law_two
  m__law_two : mg "_law_two" = some (.ref f__law_two)
  b__law_two : Binds K fd__law_two ["_law_cell", "_law_left", "_law_right"] []
  f__law_round : Addr
  fd__law_round : FuncData
  F__law_round : Fun K "_law_round" "_law_round" s__law_round f__law_round fd__law_round
  m__law_round : mg "_law_round" = some (.ref f__law_round)
  b__law_round : Binds K fd__law_round ["_law_cell", "_law_part", "_law_head"] []
  f__law_made : Addr
  fd__law_made : FuncData
  F__law_made : Fun K "_law_made" "_law_made" s__law_made f__law_made fd__law_made
  m__law_made : mg "_law_made" = some (.ref f__law_made)
  b__law_made : Binds K fd__law_made ["_law_cells", "_law_head"] []
  f_law : Addr
  fd_law : FuncData
  F_law : Fun K "law" "law" s_law f_law fd_law
  m_law : mg "law" = some (.ref f_law)
  b_law : Binds K fd_law ["_law_script"] []
  n_all : mg "all" = none
  n_any : mg "any" = none
  n_bool : mg "bool" = none
  n_int : mg "int" = none
  n_isinstance : mg "isinstance" = none
  n_len : mg "len" = none
  n_reversed : mg "reversed" = none
  n_str : mg "str" = none
  n_tuple : mg "tuple" = none
  n_type : mg "type" = none
  d_LENGTHS : Addr
  m_LENGTHS : mg "LENGTHS" = some (.ref d_LENGTHS)
  w_LENGTHS : ∃ es n, K.lookup d_LENGTHS = some ⟨.type "dict", none, .dict es n, #[]⟩ ∧ PySem.W.KeysLit w.params es.toList
  y_LENGTHS : (d_LENGTHS == sysModules) = false
  g_sign : KGet K w d_LENGTHS "sign" (some (.int 2))
  g_any : KGet K w d_LENGTHS "any" (some (.int 1))
  g_none : KGet K w d_LENGTHS "none" (some (.int 1))
  g_row : KGet K w d_LENGTHS "row" (some (.int 3))
  g_or : KGet K w d_LENGTHS "or" (some (.int 3))
  g_more : KGet K w d_LENGTHS "more" (some (.int 2))
  g_less : KGet K w d_LENGTHS "less" (some (.int 2))
  g_group : KGet K w d_LENGTHS "group" (some (.int 3))
end G1

set_option maxRecDepth 100000
set_option maxHeartbeats 4000000
namespace G1
open PySem PySem.Spec PyProof.Rows L2 Gm
section
variable {P : Program} {w : World} {K : PySem.W.Frag} {mg : Str → Option Value} {base : Heap}
def sp_is_sign : Sp := fun vs H Q _ => ∃ c : Nat, vs = [.str ⟨#[c]⟩] ∧ Q (.bl true) H
theorem ok__is_sign (T : Txt w K mg) : FnOk P w K mg base CX0 1 T.f__is_sign T.fd__is_sign ["thing"] sp_is_sign := by
  refine T.F__is_sign.ok sc__is_sign (fun vs H Q E h => ?_) (fun cdv A outer s H vs Q E hr h => ?_)
  · obtain ⟨c, rfl, _⟩ := h
    rfl
  obtain ⟨c, rfl, q⟩ := h
  refine ⟨_, (pss_one (ps_ret (pe_and (pe_cmpR (op_eqTy TypeEq.meta_str) (pe_callTy call_type1 (by rfl) T.n_type (by decide +kernel) (pa_cons (pv 0) pa_nil)) (pe_bltn (v := .ty "str") (by rfl) T.n_str (by decide +kernel) rfl) (nomark _)) (pe_one (pe_cmpR op_eq (pe_callB call_len (by rfl) T.n_len PySem.boot_len (pa_cons (pv 0) pa_nil)) pe_int (nomark _)))))), ?_⟩
  refine ⟨_, rfl, _, _, rfl, .str _, rfl, rfl, _, rfl, iteT ?_⟩
  refine ⟨_, rfl, _, _, rfl, ⟨sz (by show 1 ≤ 10000; decide), rfl⟩, rfl, ?_⟩
  exact q

end
end G1

set_option maxRecDepth 100000
set_option maxHeartbeats 4000000
namespace G1
open PySem PySem.Spec PyProof.Rows L2 Gm
section
variable {P : Program} {w : World} {K : PySem.W.Frag} {mg : Str → Option Value} {base : Heap}
def sp_is_group_number : Sp := fun vs H Q _ => ∃ n : Int, vs = [.int n] ∧ 1 ≤ n ∧ Q (.bl true) H
theorem ok__is_group_number (T : Txt w K mg) : FnOk P w K mg base CX0 1 T.f__is_group_number T.fd__is_group_number ["thing"] sp_is_group_number := by
  refine T.F__is_group_number.ok sc__is_group_number (fun vs H Q E h => ?_) (fun cdv A outer s H vs Q E hr h => ?_)
  · obtain ⟨c, rfl, _⟩ := h
    rfl
  obtain ⟨n, rfl, hn, q⟩ := h
  refine ⟨_, (pss_one (ps_ret (pe_and (pe_cmpR (op_eqTy TypeEq.meta_int) (pe_callTy call_type1 (by rfl) T.n_type (by decide +kernel) (pa_cons (pv 0) pa_nil)) (pe_bltn (v := .ty "int") (by rfl) T.n_int (by decide +kernel) rfl) (nomark _)) (pe_one (pe_cmpR op_ge (pv 0) pe_int (nomark _)))))), ?_⟩
  refine ⟨_, rfl, _, _, rfl, .int _, rfl, rfl, _, rfl, iteT ?_⟩
  refine ⟨_, rfl, _, _, rfl, rfl, ?_⟩
  show Q (.bl (decide (1 ≤ n))) H
  rw [decide_eq_true hn]
  exact q

end
end G1

set_option maxRecDepth 100000
set_option maxHeartbeats 4000000
namespace G1
open PySem PySem.Spec PyProof.Rows L2 Gm
section
variable {P : Program} {w : World} {K : PySem.W.Frag} {mg : Str → Option Value} {base : Heap}
def arity (p : Pat) : Int := 1 + ((mid p).length : Int) + ((kids p).length : Int)
def sp_has_form (K : PySem.W.Frag) : Sp := fun vs H Q _ => ∃ (p : Pat) (v : V), vs = [v] ∧ PAt K H p v ∧ Q (.bl true) H
theorem ok__has_form (T : Txt w K mg) : FnOk P w K mg base CX0 2 T.f__has_form T.fd__has_form ["thing"] (sp_has_form K) := by
  refine T.F__has_form.ok sc__has_form (fun vs H Q E h => ?_) (fun cdv A outer s H vs Q E hr h => ?_)
  · obtain ⟨p, v, rfl, _⟩ := h
    rfl
  obtain ⟨p, v, rfl, hp, q⟩ := h
  obtain ⟨a, ws, rfl, ht, hk⟩ := hp.node
  have hl : (V.str (nm p) :: (mid p ++ ws)).length = 1 + (mid p).length + (kids p).length := by
    rw [List.length_cons, List.length_append, ← Paired.length hk]
    omega
  have g : KGet K w T.d_LENGTHS (nm p) (some (.int (arity p))) := by
    cases p
    · exact T.g_sign
    · exact T.g_any
    · exact T.g_none
    · exact T.g_row
    · exact T.g_or
    · exact T.g_more
    · exact T.g_less
    · exact T.g_group
  refine ⟨_, (pss_cons (ps_if (PW.pt (pw_or (pt_cmpR (op_neTy TypeEq.meta_tuple) (pe_callTy call_type1 (by rfl) T.n_type (by decide +kernel) (pa_cons (pv 0) pa_nil)) (pe_bltn (v := .ty "tuple") (by rfl) T.n_tuple (by decide +kernel) rfl) (nomark _)) (pw_or1 (pt_cmpR op_eq (pe_callB call_len_seq (by rfl) T.n_len PySem.boot_len (pa_cons (pv 0) pa_nil)) pe_int (nomark _)))))
    (pss_one (ps_ret pe_bl))
    pss_nil)
  (pss_cons (ps_set (i := 1) sc__has_form.nd rfl (.inl rfl) (pe_ix ix_tup (pv 0) pe_int (fun _ _ => rfl)))
  (pss_cons (ps_if (PW.pt (pw_or (pt_cmpR (op_neTy TypeEq.meta_str) (pe_callTy call_type1 (by rfl) T.n_type (by decide +kernel) (pa_cons (pv 1) pa_nil)) (pe_bltn (v := .ty "str") (by rfl) T.n_str (by decide +kernel) rfl) (nomark _)) (pw_or1 (pt_cmpR op_ne (pe_kget (pe_glob (v := .ref T.d_LENGTHS) (by rfl) T.m_LENGTHS rfl) (pv 1) ⟨rfl, rfl, rfl, rfl⟩) (pe_callB call_len_seq (by rfl) T.n_len PySem.boot_len (pa_cons (pv 0) pa_nil)) (nomark _)))))
    (pss_one (ps_ret pe_bl))
    pss_nil)
  (pss_cons (ps_if (pt_cmpR op_eq (pv 1) pe_str (nomark _))
    (pss_one (ps_ret (pe_call (ok__is_sign T) (hr.mono (by decide)) (by rfl) T.m__is_sign T.F__is_sign.kp T.b__is_sign .nil pass0 (pa_cons (pe_ix ix_tup (pv 0) pe_int (fun _ _ => rfl)) pa_nil))))
    pss_nil)
  (pss_cons (ps_if (pt_cmpR op_eq (pv 1) pe_str (nomark _))
    (pss_one (ps_ret (pe_call (ok__is_group_number T) (hr.mono (by decide)) (by rfl) T.m__is_group_number T.F__is_group_number.kp T.b__is_group_number .nil pass0 (pa_cons (pe_ix ix_tup (pv 0) pe_int (fun _ _ => rfl)) pa_nil))))
    pss_nil)
  (pss_one (ps_ret pe_bl))))))), ?_⟩
  refine ⟨_, rfl, _, _, rfl, .tup ht, rfl, rfl, _, rfl, iteF ?_⟩
  refine ⟨_, rfl, a, _, rfl, .inr ht, rfl, _, rfl, ?_⟩
  have e0 : decide (V.int (((V.str (nm p) :: (mid p ++ ws)).length : Nat) : Int) = V.int 0) = false := decide_eq_false fun z => by
    have z' := V.int.inj z
    rw [hl] at z'
    omega
  rw [e0]
  refine iteF ?_
  refine ⟨_, rfl, _, _, _, _, rfl, rfl, ht, at0 rfl, ?_⟩
  refine ⟨_, rfl, _, _, rfl, .str _, rfl, rfl, _, rfl, iteF ?_⟩
  refine ⟨_, rfl, T.w_LENGTHS, T.y_LENGTHS, _, rfl, _, _, rfl, g, ?_⟩
  refine ⟨_, rfl, a, _, rfl, .inr ht, rfl, _, rfl, ?_⟩
  have e1 : (!decide (V.int (arity p) = V.int (((V.str (nm p) :: (mid p ++ ws)).length : Nat) : Int))) = false := by
    rw [decide_eq_true]
    · rfl
    · rw [hl]
      unfold arity
      congr 1
  show if (!decide (V.int (arity p) = V.int (((V.str (nm p) :: (mid p ++ ws)).length : Nat) : Int))) = true then _ else _
  rw [e1]
  refine iteF ?_
  refine ⟨_, rfl, rfl, _, rfl, ?_⟩
  cases p with
  | sign c =>
    refine iteT ?_
    exact ⟨_, rfl, _, _, _, _, rfl, rfl, ht, at1 rfl, c, rfl, q⟩
  | group n p =>
    refine iteF ?_
    refine ⟨_, rfl, rfl, _, rfl, iteT ?_⟩
    exact ⟨_, rfl, _, _, _, _, rfl, rfl, ht, at1 rfl, n, rfl, hp.num, q⟩
  | _ =>
    refine iteF ?_
    refine ⟨_, rfl, rfl, _, rfl, iteF ?_⟩
    exact q

end
end G1

set_option maxRecDepth 100000
set_option maxHeartbeats 4000000
namespace G1
open PySem PySem.Spec PyProof.Rows L2 Gm
section
variable {P : Program} {w : World} {K : PySem.W.Frag} {mg : Str → Option Value} {base : Heap}
def sp_inner (K : PySem.W.Frag) : Sp := fun vs H Q _ => ∃ (p : Pat) (v : V), vs = [v] ∧ PAt K H p v ∧
  ∀ (r : Addr) (ws : List V) (H' : Hp), Same H H' → H r = none → H' r = some (.lst ws) → PAts K H' (kids p) ws → Q (.ref r) H'
theorem ok__inner (T : Txt w K mg) : FnOk P w K mg base CX0 1 T.f__inner T.fd__inner ["part"] (sp_inner K) := by
  refine T.F__inner.ok sc__inner (fun vs H Q E h => ?_) (fun cdv A outer s H vs Q E hr h => ?_)
  · obtain ⟨p, v, rfl, _⟩ := h
    rfl
  obtain ⟨p, v, rfl, hp, q⟩ := h
  obtain ⟨a, ws, rfl, ht, hk⟩ := hp.node
  refine ⟨_, (pss_cons (ps_if (pt_cmpR op_in_seq (pe_ix ix_tup (pv 0) pe_int (fun _ _ => rfl)) (pe_tup (pa_cons pe_str (pa_cons pe_str pa_nil))) (by rfl))
    (pss_one (ps_ret (pe_lst (pa_cons (pe_ix ix_tup (pv 0) pe_int (fun _ _ => rfl)) (pa_cons (pe_ix ix_tup (pv 0) pe_int (fun _ _ => rfl)) pa_nil)))))
    pss_nil)
  (pss_cons (ps_if (pt_cmpR op_in_seq (pe_ix ix_tup (pv 0) pe_int (fun _ _ => rfl)) (pe_tup (pa_cons pe_str (pa_cons pe_str pa_nil))) (by rfl))
    (pss_one (ps_ret (pe_lst (pa_cons (pe_ix ix_tup (pv 0) pe_int (fun _ _ => rfl)) pa_nil))))
    pss_nil)
  (pss_cons (ps_if (pt_cmpR op_eq (pe_ix ix_tup (pv 0) pe_int (fun _ _ => rfl)) pe_str (nomark _))
    (pss_one (ps_ret (pe_lst (pa_cons (pe_ix ix_tup (pv 0) pe_int (fun _ _ => rfl)) pa_nil))))
    pss_nil)
  (pss_one (ps_ret (pe_lst pa_nil)))))), ?_⟩
  refine ⟨_, rfl, _, _, _, _, rfl, rfl, ht, at0 rfl, (by show 2 ≤ sizeLine; exact sz (by decide)), fun t1 n1 => ⟨_, _, rfl, .inr (SqT.of upd_same), rfl, rfl, _, rfl, ?_⟩⟩
  have s1 := same_new (o := .tup [.str "row", .str "or"]) n1
  have ht1 := TS.of (K := K) s1 _ _ ht
  have hk1 := PAts.mono (TS.of (K := K) s1) hk
  cases p with
  | row p1 p2 =>
    cases hk with
    | cons k1 k2 =>
      cases k2 with
      | cons k2 k3 =>
        cases k3
        refine iteT ?_
        refine ⟨_, rfl, _, _, _, _, rfl, rfl, ht1, at1 rfl, _, rfl, _, _, _, _, rfl, rfl, ht1, at2 rfl, (by show 2 ≤ sizeLine; exact sz (by decide)), fun r hr => ?_⟩
        exact q r _ _ (s1.trans (same_new hr)) (s1.free hr) upd_same (hk1.mono (TS.new hr))
  | or p1 p2 =>
    cases hk with
    | cons k1 k2 =>
      cases k2 with
      | cons k2 k3 =>
        cases k3
        refine iteT ?_
        refine ⟨_, rfl, _, _, _, _, rfl, rfl, ht1, at1 rfl, _, rfl, _, _, _, _, rfl, rfl, ht1, at2 rfl, (by show 2 ≤ sizeLine; exact sz (by decide)), fun r hr => ?_⟩
        exact q r _ _ (s1.trans (same_new hr)) (s1.free hr) upd_same (hk1.mono (TS.new hr))
  | more p1 =>
    cases hk with
    | @cons _ x _ _ k1 k2 =>
      cases k2
      refine iteF ?_
      refine ⟨_, rfl, _, _, _, _, rfl, rfl, ht1, at0 rfl, (by show 2 ≤ sizeLine; exact sz (by decide)), fun t2 n2 => ⟨_, _, rfl, .inr (SqT.of upd_same), rfl, rfl, _, rfl, iteT ?_⟩⟩
      have s2 := s1.trans (same_new (o := .tup [.str "more", .str "less"]) n2)
      have ht2 := TS.of (K := K) s2 _ _ ht
      refine ⟨_, rfl, _, _, _, _, rfl, rfl, ht2, at1 rfl, (by show 1 ≤ sizeLine; exact sz (by decide)), fun r hr => ?_⟩
      exact q r _ _ (s2.trans (same_new hr)) (s2.free hr) upd_same (PAts.mono (TS.of (s2.trans (same_new hr))) (.cons k1 .nil))
  | less p1 =>
    cases hk with
    | @cons _ x _ _ k1 k2 =>
      cases k2
      refine iteF ?_
      refine ⟨_, rfl, _, _, _, _, rfl, rfl, ht1, at0 rfl, (by show 2 ≤ sizeLine; exact sz (by decide)), fun t2 n2 => ⟨_, _, rfl, .inr (SqT.of upd_same), rfl, rfl, _, rfl, iteT ?_⟩⟩
      have s2 := s1.trans (same_new (o := .tup [.str "more", .str "less"]) n2)
      have ht2 := TS.of (K := K) s2 _ _ ht
      refine ⟨_, rfl, _, _, _, _, rfl, rfl, ht2, at1 rfl, (by show 1 ≤ sizeLine; exact sz (by decide)), fun r hr => ?_⟩
      exact q r _ _ (s2.trans (same_new hr)) (s2.free hr) upd_same (PAts.mono (TS.of (s2.trans (same_new hr))) (.cons k1 .nil))
  | group n p1 =>
    cases hk with
    | @cons _ x _ _ k1 k2 =>
      cases k2
      refine iteF ?_
      refine ⟨_, rfl, _, _, _, _, rfl, rfl, ht1, at0 rfl, (by show 2 ≤ sizeLine; exact sz (by decide)), fun t2 n2 => ⟨_, _, rfl, .inr (SqT.of upd_same), rfl, rfl, _, rfl, iteF ?_⟩⟩
      have s2 := s1.trans (same_new (o := .tup [.str "more", .str "less"]) n2)
      have ht2 := TS.of (K := K) s2 _ _ ht
      refine ⟨_, rfl, _, _, _, _, rfl, rfl, ht2, at0 rfl, rfl, _, rfl, iteT ?_⟩
      refine ⟨_, rfl, _, _, _, _, rfl, rfl, ht2, at2 rfl, (by show 1 ≤ sizeLine; exact sz (by decide)), fun r hr => ?_⟩
      exact q r _ _ (s2.trans (same_new hr)) (s2.free hr) upd_same (PAts.mono (TS.of (s2.trans (same_new hr))) (.cons k1 .nil))
  | _ =>
    cases hk
    refine iteF ?_
    refine ⟨_, rfl, _, _, _, _, rfl, rfl, ht1, at0 rfl, (by show 2 ≤ sizeLine; exact sz (by decide)), fun t2 n2 => ⟨_, _, rfl, .inr (SqT.of upd_same), rfl, rfl, _, rfl, iteF ?_⟩⟩
    have s2 := s1.trans (same_new (o := .tup [.str "more", .str "less"]) n2)
    have ht2 := TS.of (K := K) s2 _ _ ht
    refine ⟨_, rfl, _, _, _, _, rfl, rfl, ht2, at0 rfl, rfl, _, rfl, iteF ?_⟩
    refine ⟨Nat.zero_le _, fun r hr => ?_⟩
    exact q r _ _ (s2.trans (same_new hr)) (s2.free hr) upd_same .nil

end
end G1

set_option maxRecDepth 100000
set_option maxHeartbeats 4000000
namespace G1
open PySem PySem.Spec PyProof.Rows L2 Gm
section
variable {P : Program} {w : World} {K : PySem.W.Frag} {mg : Str → Option Value} {base : Heap}
def sp_may (K : PySem.W.Frag) : Sp := fun vs H Q _ => ∃ (z : Str) (a : Addr) (bs : List Bool), vs = [.str z, .ref a] ∧ SqL K H a (bs.map V.bl) ∧
  ∀ (H' : Hp), Same H H' → Q (.bl (mtn z bs)) H'
theorem ok__may_take_nothing (T : Txt w K mg) : FnOk P w K mg base CX0 1 T.f__may_take_nothing T.fd__may_take_nothing ["name", "inner_answers"] (sp_may K) := by
  refine T.F__may_take_nothing.ok sc__may_take_nothing (fun vs H Q E h => ?_) (fun cdv A outer s H vs Q E hr h => ?_)
  · obtain ⟨z, a, bs, rfl, _⟩ := h
    rfl
  obtain ⟨z, a, bs, rfl, ha, q⟩ := h
  refine ⟨_, (pss_cons (ps_if (pt_cmpR op_in_seq (pv 0) (pe_tup (pa_cons pe_str (pa_cons pe_str (pa_cons pe_str pa_nil)))) (by rfl))
    (pss_one (ps_ret pe_bl))
    pss_nil)
  (pss_cons (ps_if (pt_cmpR op_in_seq (pv 0) (pe_tup (pa_cons pe_str (pa_cons pe_str pa_nil))) (by rfl))
    (pss_one (ps_ret (pe_callB (cr_all rfl) (by rfl) T.n_all (by decide +kernel) (pa_cons (pv 1) pa_nil))))
    pss_nil)
  (pss_one (ps_ret (pe_callB (cr_any rfl) (by rfl) T.n_any (by decide +kernel) (pa_cons (pv 1) pa_nil)))))), ?_⟩
  refine ⟨_, rfl, ⟨(by show 3 ≤ sizeLine; exact sz (by decide)), fun t1 n1 => ⟨_, _, rfl, .inr (SqT.of upd_same), rfl, rfl, _, rfl, ?_⟩⟩⟩
  have s1 := same_new (o := .tup [.str "none", .str "more", .str "less"]) n1
  rw [inV3]
  refine ite2 (fun c => ?_) (fun c => ?_)
  · have e : mtn z bs = true := by
      unfold mtn
      rw [if_pos (of_decide_eq_true c)]
    have := q _ s1
    rw [e] at this
    exact this
  · refine ⟨_, rfl, ⟨(by show 2 ≤ sizeLine; exact sz (by decide)), fun t2 n2 => ⟨_, _, rfl, .inr (SqT.of upd_same), rfl, rfl, _, rfl, ?_⟩⟩⟩
    have s2 := s1.trans (same_new (o := .tup [.str "row", .str "group"]) n2)
    rw [inV2]
    have c' := of_decide_eq_false (Bool.eq_false_iff.mpr c)
    refine ite2 (fun d => ?_) (fun d => ?_)
    · have e : mtn z bs = bs.all id := by
        unfold mtn
        rw [if_neg c', if_pos (of_decide_eq_true d)]
      have := q _ s2
      rw [e] at this
      exact ⟨_, rfl, a, bs, rfl, s2.seq ha, this⟩
    · have e : mtn z bs = bs.any id := by
        unfold mtn
        rw [if_neg c', if_neg (of_decide_eq_false (Bool.eq_false_iff.mpr d))]
      have := q _ s2
      rw [e] at this
      exact ⟨_, rfl, a, bs, rfl, s2.seq ha, this⟩

end
end G1

set_option maxRecDepth 100000
set_option maxHeartbeats 4000000
namespace G1
open PySem PySem.Spec PyProof.Rows L2 Gm
section
variable {P : Program} {w : World} {K : PySem.W.Frag} {mg : Str → Option Value} {base : Heap}
def sp_parts (K : PySem.W.Frag) : Sp := fun vs H Q _ => ∃ (p : Pat) (v : V), vs = [v] ∧ PAt K H p v ∧ siz p ≤ 1000 ∧
  ∀ (r : Addr) (fs : List V) (H' : Hp), Same H H' → H r = none → H' r = some (.lst fs) → PAts K H' (subs p) fs → Q (.ref r) H'
def pInv (K : PySem.W.Frag) (H : Hp) (v : V) (lf lw : Addr) (p : Pat) (m : Nat) (σ : L2.St) (H' : Hp) : Prop :=
  ∃ (F W : List Pat) (fs ws : List V) (x : Option V), σ = [some v, some (.ref lf), some (.ref lw), x] ∧ Same H H' ∧ H' lf = some (.lst fs) ∧ H' lw = some (.lst ws.reverse) ∧
    PAts K H' F fs ∧ PAts K H' W ws ∧ subs p = F ++ subsL W ∧ m = (subsL W).length
theorem ok_parts (T : Txt w K mg) : FnOk P w K mg base CX0 3 T.f_parts T.fd_parts ["pattern"] (sp_parts K) := by
  refine T.F_parts.ok sc_parts (fun vs H Q E h => ?_) (fun cdv A outer s H vs Q E hr h => ?_)
  · obtain ⟨p, v, rfl, _⟩ := h
    rfl
  obtain ⟨p, v, rfl, hp, hz, q⟩ := h
  refine ⟨_, (pss_cons (ps_set (i := 1) sc_parts.nd rfl (.inl rfl) (pe_lst pa_nil))
  (pss_cons (ps_set (i := 2) sc_parts.nd rfl (.inl rfl) (pe_lst (pa_cons (pv 0) pa_nil)))
  (pss_cons (ps_while PassesOwn.never (pt_truth (pv 2) (by intro _; rfl))
   (pss_cons (ps_set (i := 3) sc_parts.nd rfl (.inl rfl) (pe_bm0 PySem.F.plainAttrs_list PySem.F.slot_list_pop PySem.F.type_list_pop mt_pop (pv 2)))
  (pss_cons (ps_if (pt_not (pt_val (pe_call (ok__has_form T) (hr.mono (by decide)) (by rfl) T.m__has_form T.F__has_form.kp T.b__has_form .nil pass0 (pa_cons (pv 3) pa_nil))))
    (pss_one ps_never)
    pss_nil)
  (pss_cons (ps_expr (pe_bm PySem.F.plainAttrs_list PySem.F.slot_list_append PySem.F.type_list_append mt_append (pv 1) (pa_cons (pv 3) pa_nil)))
  (pss_one (ps_expr (pe_bm PySem.F.plainAttrs_list PySem.F.slot_list_extend PySem.F.type_list_extend mt_extend (pv 2) (pa_cons (pe_revL (pe_call (ok__inner T) (hr.mono (by decide)) (by rfl) T.m__inner T.F__inner.kp T.b__inner .nil pass0 (pa_cons (pv 3) pa_nil))) pa_nil))))))))
  (pss_one (ps_ret (pv 1)))))), ?_⟩
  refine ⟨Nat.zero_le _, fun lf nf => ?_⟩
  refine ⟨_, rfl, sz (by show 1 ≤ 10000; decide), fun lw nw => ?_⟩
  have nlw : lw ≠ lf := fun z => by
    rw [z, upd_same] at nw
    cases nw
  have nw0 : H lw = none := by
    rw [upd_ne nlw] at nw
    exact nw
  refine ⟨pInv K H v lf lw p, ⟨_, [], [p], [], [v], none, rfl, ((same_new nf).trans (same_new nw)), ?_, upd_same, .nil, .cons (hp.mono (TS.of ((same_new nf).trans (same_new nw)))) .nil, ?_, rfl⟩, ?_⟩
  · rw [upd_ne nlw.symm]
    exact upd_same
  · rw [subsL_cons, subsL_nil, List.append_nil, List.nil_append]
  rintro m σ H1 ⟨F, W, fs, ws, x, rfl, s1, hf, hw, pf, pw, es, rfl⟩
  cases pw with
  | nil =>
    refine ⟨_, rfl, false, .inl ⟨_, SqL.of hw, rfl⟩, iteF ?_⟩
    refine ⟨_, rfl, ?_⟩
    rw [subsL_nil, List.append_nil] at es
    rw [← es] at pf
    exact q lf fs H1 s1 nf hf pf
  | @cons p1 v1 W' ws' h1 hW =>
    rw [List.reverse_cons] at hw
    refine ⟨_, rfl, true, .inl ⟨_, SqL.of hw, by simp⟩, iteT ?_⟩
    have el : (subsL (p1 :: W')).length = 1 + (subsL (kids p1 ++ W')).length := by
      rw [subsL_cons, subs_eq, subsL_app, List.cons_append, List.length_cons]
      omega
    have tot : F.length + (subsL (p1 :: W')).length ≤ 1000 := by
      have : (subs p).length ≤ 1000 := hz
      rw [es, List.length_append] at this
      exact this
    refine ⟨pInv K H v lf lw p (subsL (kids p1 ++ W')).length, fun σ' H' hI => ⟨_, by rw [el]; omega, hI⟩, ?_⟩
    refine ⟨_, rfl, .inl ⟨rfl, _, SqL.of hw⟩, lw, _, v1, rfl, rfl, hw, last_get _ _, ?_⟩
    rw [List.dropLast_concat]
    have t1 : TS K H1 (upd H1 lw (.lst ws'.reverse)) := TS.lst hw
    refine ⟨_, rfl, p1, v1, rfl, h1.mono t1, _, rfl, iteF ?_⟩
    have hf1 : upd H1 lw (.lst ws'.reverse) lf = some (.lst fs) := by
      rw [upd_ne nlw.symm]
      exact hf
    have lf1 : F.length = fs.length := Paired.length pf
    refine ⟨_, rfl, .inl ⟨rfl, _, SqL.of hf1⟩, _, rfl, lf, fs, v1, rfl, rfl, hf1, szl (by omega), ?_⟩
    have t2 := t1.trans (TS.lst (K := K) (ys := fs ++ [v1]) hf1)
    have hw2 : upd (upd H1 lw (.lst ws'.reverse)) lf (.lst (fs ++ [v1])) lw = some (.lst ws'.reverse) := by
      rw [upd_ne nlw]
      exact upd_same
    refine ⟨_, rfl, .inl ⟨rfl, _, SqL.of hw2⟩, _, rfl, p1, v1, rfl, h1.mono t2, fun r ks H2 s2 nr hr2 hk => ⟨r, ks, rfl, SqL.of hr2, fun r2 nr2 => ?_⟩⟩
    have s3 := s2.trans (same_new (o := .lst ks.reverse) nr2)
    have lk : (kids p1).length = ks.length := Paired.length hk
    have lw1 : W'.length = ws'.length := Paired.length hW
    refine ⟨lw, r2, _, _, rfl, rfl, s3 _ _ hw2, upd_same, ?_, ?_⟩
    · rw [List.length_reverse, List.length_reverse]
      have := subsL_pos (kids p1 ++ W')
      rw [List.length_append] at this
      exact sz (by omega)
    have hwA := s3 _ _ hw2
    have t3 := t2.trans (TS.of (K := K) s3)
    have t4 := t3.trans (TS.lst (K := K) (ys := ws'.reverse ++ ks.reverse) hwA)
    refine ⟨F ++ [p1], kids p1 ++ W', fs ++ [v1], ks ++ ws', some v1, rfl, ?_, ?_, ?_, ?_, ?_, ?_, rfl⟩
    · exact Same.mut (Same.trans (Same.mut (Same.mut s1 nw0) nf) s3) nw0
    · rw [upd_ne nlw.symm]
      exact s3 _ _ upd_same
    · rw [List.reverse_append]
      exact upd_same
    · exact Paired.snoc (PAts.mono t4 pf) (h1.mono t4)
    · exact Paired.app (PAts.mono ((TS.of (same_new nr2)).trans (TS.lst hwA)) hk) (PAts.mono t4 hW)
    · rw [es, subsL_cons, subs_eq, subsL_app]
      simp

end
end G1

set_option maxRecDepth 100000
set_option maxHeartbeats 4000000
namespace G1
open PySem PySem.Spec PyProof.Rows L2 Gm
section
variable {P : Program} {w : World} {K : PySem.W.Frag} {mg : Str → Option Value} {base : Heap}
def sp_takings (K : PySem.W.Frag) : Sp := fun vs H Q _ => ∃ (L : List Pat) (a : Addr) (fs : List V), vs = [.ref a] ∧ SqL K H a fs ∧ PAts K H L fs ∧ okL L ∧ L.length ≤ 1000 ∧
  ∀ (r : Addr) (H' : Hp), Same H H' → H r = none → H' r = some (.lst ((tk L).map V.bl)) → Q (.ref r) H'
theorem drop_pre {α : Type} {L : List α} {k : Nat} {x : α} (h : L[k]? = some x) : L.drop k = x :: L.drop (k + 1) := by
  obtain ⟨h1, h2⟩ := List.getElem?_eq_some_iff.mp h
  rw [← h2]
  exact List.drop_eq_getElem_cons h1
theorem ok__takings (T : Txt w K mg) : FnOk P w K mg base CX0 2 T.f__takings T.fd__takings ["found"] (sp_takings K) := by
  refine T.F__takings.ok sc__takings (fun vs H Q E h => ?_) (fun cdv A outer s H vs Q E hr h => ?_)
  · obtain ⟨L, a, fs, rfl, _⟩ := h
    rfl
  obtain ⟨L, a, fs, rfl, ha, hL, hok, hz, q⟩ := h
  have ll : L.length = fs.length := Paired.length hL
  refine ⟨_, (pss_cons (ps_set (i := 1) sc__takings.nd rfl (.inl rfl) (pe_lst pa_nil))
  (pss_cons (ps_set (i := 2) sc__takings.nd rfl (.inr rfl) (pe_lst pa_nil))
  (pss_cons (ps_for PassesOwn.never rfl (pi_reversed (by rfl) T.n_reversed (pa_cons (pv 0) pa_nil)) (pg_name (i := 3) sc__takings.nd rfl (.inl rfl))
   (pss_cons (ps_setLc (i := 4) (own := [("_", 6)]) (g := gName 6) (te := tBM0 K "list" rPop (tVar 2)) rfl sc__takings.nd rfl rfl (sw_true rfl rfl rfl (by decide +kernel)) (pi_list (pe_call (ok__inner T) (hr.mono (by decide)) (by rfl) T.m__inner T.F__inner.kp T.b__inner .nil pass0 (pa_cons (pv 3) pa_nil))) (blkOk_by (own := [("_", 6)]) (N := N__takings) (sc := defScope s__takings) (by decide +kernel)) (fun _ _ _ _ _ => by exact (pg_name (i := 6) sc__takings.nd rfl (.inl rfl))) (fun _ _ _ _ _ => by exact pts_nil) (fun _ _ _ _ _ => by exact (pe_bm0 PySem.F.plainAttrs_list PySem.F.slot_list_pop PySem.F.type_list_pop mt_pop (pv 2))))
  (pss_cons (ps_set (i := 5) sc__takings.nd rfl (.inl rfl) (pe_call (ok__may_take_nothing T) (hr.mono (by decide)) (by rfl) T.m__may_take_nothing T.F__may_take_nothing.kp T.b__may_take_nothing .nil pass0 (pa_cons (pe_ix ix_tup (pv 3) pe_int (fun _ _ => rfl)) (pa_cons (pv 4) pa_nil))))
  (pss_cons (ps_expr (pe_bm PySem.F.plainAttrs_list PySem.F.slot_list_append PySem.F.type_list_append mt_append (pv 2) (pa_cons (pv 5) pa_nil)))
  (pss_one (ps_expr (pe_bm PySem.F.plainAttrs_list PySem.F.slot_list_append PySem.F.type_list_append mt_append (pv 1) (pa_cons (pv 5) pa_nil))))))))
  (pss_one (ps_ret (pe_revL (pv 1))))))), ?_⟩
  refine ⟨Nat.zero_le _, fun lt nt => ?_⟩
  refine ⟨Nat.zero_le _, fun lo no => ?_⟩
  have nlo : lo ≠ lt := fun z => by
    rw [z, upd_same] at no
    cases no
  have no0 : H lo = none := by
    rw [upd_ne nlo] at no
    exact no
  have s0 := (same_new (o := .lst []) nt).trans (same_new (o := .lst []) no)
  refine ⟨_, rfl, a, fs, rfl, s0.seq ha, ?_⟩
  refine ⟨fun i m σ H' => m + i = fs.length ∧ ∃ (x1 x2 x3 : Option V), σ = [some (.ref a), some (.ref lt), some (.ref lo), x1, x2, x3, none] ∧ Same H H' ∧
    H' lt = some (.lst ((tk (L.drop m)).reverse.map V.bl)) ∧ H' lo = some (.lst ((stk (L.drop m)).reverse.map V.bl)), ⟨fs.length, by omega, none, none, none, rfl, s0, ?_, ?_⟩, ?_⟩
  · rw [upd_ne nlo.symm, ← ll, List.drop_length]
    exact upd_same
  · rw [← ll, List.drop_length]
    exact upd_same
  rintro i m σ H1 ⟨em, x1, x2, x3, rfl, s1, ht, ho⟩
  by_cases hi : m = 0
  · left
    refine ⟨by show fs.length ≤ i; omega, ?_⟩
    subst hi
    refine ⟨_, rfl, lt, _, rfl, SqL.of ht, fun r nr => ?_⟩
    refine q r _ (s1.trans (same_new nr)) (s1.free nr) ?_
    rw [upd_same]
    simp
  right
  obtain ⟨k, rfl⟩ : ∃ k, m = k + 1 := ⟨m - 1, by omega⟩
  have hk : fs.length - 1 - i = k := by omega
  refine ⟨⟨by omega, fs, fs[k]'(by omega), s1.seq ha, by rw [hk]; exact List.getElem?_eq_getElem _⟩, fun σ' H' => k + (i + 1) = fs.length ∧ ∃ (x1 x2 x3 : Option V), σ' = [some (.ref a), some (.ref lt), some (.ref lo), x1, x2, x3, none] ∧ Same H H' ∧
    H' lt = some (.lst ((tk (L.drop k)).reverse.map V.bl)) ∧ H' lo = some (.lst ((stk (L.drop k)).reverse.map V.bl)), fun σ' H' hN => ⟨k, by omega, hN⟩, ?_⟩
  rintro v H2 ⟨rfl, hv⟩
  have hv := hv fs (s1.seq ha)
  rw [hk] at hv
  obtain ⟨p, hp, pv⟩ := Paired.at hL hv
  have ed : L.drop k = p :: L.drop (k + 1) := drop_pre hp
  have hokk := okL_drop k hok
  rw [ed] at hokk
  obtain ⟨hlen, _⟩ := hokk
  have lst := stk_le (L.drop (k + 1))
  have ltk := tk_length (L.drop (k + 1))
  rw [List.length_drop] at lst ltk
  obtain ⟨b, wsn, rfl, hb, _⟩ := pv.node
  -- the answers of the inner ones
  refine ⟨_, rfl, p, _, rfl, pv.mono (TS.of s1), fun r ks H3 s3 nr hr3 hks => ⟨r, rfl, ⟨_, SqL.of hr3⟩, fun D nD => ?_⟩⟩
  have lks : (kids p).length = ks.length := Paired.length hks
  have nDlo : lo ≠ D := ne_of_none (s3 _ _ ho) nD
  have nDlt : lt ≠ D := ne_of_none (s3 _ _ ht) nD
  have nDr : r ≠ D := ne_of_none hr3 nD
  have nrlo : r ≠ lo := fun z => by
    rw [z, ho] at nr
    cases nr
  have nrlt : r ≠ lt := fun z => by
    rw [z, ht] at nr
    cases nr
  generalize hS : stk (L.drop (k + 1)) = S at *
  generalize hTK : tk (L.drop (k + 1)) = TK at *
  refine lc_list (K := K) (a := r) (xs := ks) (fun j H' => Same H H' ∧ H' r = some (.lst ks) ∧ H' lt = some (.lst (TK.reverse.map V.bl)) ∧ H' lo = some (.lst ((S.drop j).reverse.map V.bl)) ∧ H' D = some (.lst ((S.take j).map V.bl)))
    ⟨?_, ?_, ?_, ?_, ?_⟩ (fun j H' _ hI => SqL.of hI.2.1) ?_ ?_
  · exact (s1.trans s3).trans (same_new nD)
  · rw [upd_ne nDr]
    exact hr3
  · rw [upd_ne nDlt]
    exact s3 _ _ ht
  · rw [upd_ne nDlo]
    exact s3 _ _ ho
  · rw [List.take_zero]
    exact upd_same
  · rintro j y H4 hj ⟨sa, sb, sc, sd, se⟩
    have jl : j < ks.length := (List.getElem?_eq_some_iff.mp hj).1
    have jS : j < S.length := by omega
    refine ⟨rfl, yes_if ?_⟩
    have eS : S.drop j = S[j] :: S.drop (j + 1) := List.drop_eq_getElem_cons jS
    rw [eS, List.reverse_cons, List.map_append] at sd
    refine ⟨_, rfl, .inl ⟨rfl, _, SqL.of sd⟩, lo, _, .bl S[j], rfl, rfl, sd, last_get _ _, ?_⟩
    show ∃ acc, _
    refine ⟨(S.take j).map V.bl, ?_, ?_, ?_⟩
    · rw [upd_ne nDlo.symm]
      exact se
    · rw [List.length_map, List.length_take]
      exact szl (by omega)
    refine ⟨?_, ?_, ?_, ?_, ?_⟩
    · exact Same.mut (Same.mut sa no0) (s1.free (s3.free nD))
    · rw [upd_ne nDr, upd_ne nrlo]
      exact sb
    · rw [upd_ne nDlt, upd_ne nlo.symm]
      exact sc
    · rw [upd_ne nDlo]
      show upd H4 lo (HO.lst (List.map V.bl (S.drop (j + 1)).reverse ++ [V.bl S[j]]).dropLast) lo = _
      rw [List.dropLast_concat]
      exact upd_same
    · rw [upd_same, ← List.take_append_getElem jS, List.map_append]
      rfl
  · rintro H4 ⟨sa, sb, sc, sd, se⟩
    rw [← lks] at sd se
    have tb := TS.of (K := K) sa _ _ (show SqT K H b _ from hb)
    refine ⟨_, rfl, _, _, _, _, rfl, rfl, tb, at0 rfl, _, rfl, nm p, D, S.take (kids p).length, rfl, SqL.of se, fun H5 s5 => ?_⟩
    have so := s5 _ _ sd
    have st := s5 _ _ sc
    refine ⟨_, rfl, .inl ⟨rfl, _, SqL.of so⟩, _, rfl, lo, _, _, rfl, rfl, so, szl ?_, ?_⟩
    · simp
      omega
    have st2 : upd H5 lo (.lst (((S.drop (kids p).length).reverse.map V.bl) ++ [.bl (mtn (nm p) (S.take (kids p).length))])) lt = some (.lst (TK.reverse.map V.bl)) := by
      rw [upd_ne nlo.symm]
      exact st
    refine ⟨_, rfl, .inl ⟨rfl, _, SqL.of st2⟩, _, rfl, lt, _, _, rfl, rfl, st2, szl ?_, ?_⟩
    · simp
      omega
    refine ⟨by omega, _, _, _, rfl, Same.mut (Same.mut (sa.trans s5) no0) nt, ?_, ?_⟩
    · rw [upd_same, ed]
      show _ = some (HO.lst (List.map V.bl (mtn (nm p) ((stk (L.drop (k + 1))).take (kids p).length) :: tk (L.drop (k + 1))).reverse))
      rw [hS, hTK]
      simp
    · rw [upd_ne nlo, upd_same, ed]
      show _ = some (HO.lst (List.map V.bl (mtn (nm p) ((stk (L.drop (k + 1))).take (kids p).length) :: (stk (L.drop (k + 1))).drop (kids p).length).reverse))
      rw [hS]
      simp

end
end G1

set_option maxRecDepth 100000
set_option maxHeartbeats 4000000
namespace G1
open PySem PySem.Spec PyProof.Rows L2 Gm
section
variable {P : Program} {w : World} {K : PySem.W.Frag} {mg : Str → Option Value} {base : Heap}
def sp_takes_nothing (K : PySem.W.Frag) : Sp := fun vs H Q _ => ∃ (p : Pat) (v : V), vs = [v] ∧ PAt K H p v ∧ siz p ≤ 1000 ∧
  ∀ (H' : Hp), Same H H' → Q (.bl (nul p)) H'
theorem ok_takes_nothing (T : Txt w K mg) : FnOk P w K mg base CX0 4 T.f_takes_nothing T.fd_takes_nothing ["pattern"] (sp_takes_nothing K) := by
  refine T.F_takes_nothing.ok sc_takes_nothing (fun vs H Q E h => ?_) (fun cdv A outer s H vs Q E hr h => ?_)
  · obtain ⟨p, v, rfl, _⟩ := h
    rfl
  obtain ⟨p, v, rfl, hp, hz, q⟩ := h
  refine ⟨_, (pss_one (ps_ret (pe_ix ix_list (pe_call (ok__takings T) (hr.mono (by decide)) (by rfl) T.m__takings T.F__takings.kp T.b__takings .nil pass0 (pa_cons (pe_call (ok_parts T) (hr.mono (by decide)) (by rfl) T.m_parts T.F_parts.kp T.b_parts .nil pass0 (pa_cons (pv 0) pa_nil)) pa_nil)) pe_int (fun _ _ => rfl)))), ?_⟩
  refine ⟨_, rfl, p, v, rfl, hp, hz, fun r fs H1 s1 _ h1 hf => ?_⟩
  have e := stk_subs p []
  rw [List.append_nil] at e
  refine ⟨subs p, r, fs, rfl, SqL.of h1, hf, e.2.2 trivial, hz, fun r2 H2 s2 _ h2 => ?_⟩
  rw [e.2.1, show tk [] = [] from rfl, List.append_nil, subs_eq] at h2
  exact ⟨_, _, _, _, rfl, rfl, SqL.of h2, at0 rfl, q H2 (s1.trans s2)⟩

end
end G1

set_option maxRecDepth 100000
set_option maxHeartbeats 4000000
namespace G1
open PySem PySem.Spec PyProof.Rows L2 Gm
section
variable {P : Program} {w : World} {K : PySem.W.Frag} {mg : Str → Option Value} {base : Heap}
def sp_cell_at (K : PySem.W.Frag) : Sp := fun vs H Q _ => ∃ (a : Addr) (ns : List Int) (k : Nat), vs = [.ref a, .int (k : Int)] ∧ SqL K H a (ns.map V.int) ∧ Q (.int (cellAt ns k)) H
theorem ok__law_cell_at (T : Txt w K mg) : FnOk P w K mg base CX0 1 T.f__law_cell_at T.fd__law_cell_at ["_law_script", "_law_k"] (sp_cell_at K) := by
  refine T.F__law_cell_at.ok sc__law_cell_at (fun vs H Q E h => ?_) (fun cdv A outer s H vs Q E hr h => ?_)
  · obtain ⟨a, ns, k, rfl, _⟩ := h
    rfl
  obtain ⟨a, ns, k, rfl, ha, q⟩ := h
  refine ⟨_, (pss_cons (ps_if (pt_cmpR op_lt (pv 1) (pe_callB call_len_seq (by rfl) T.n_len PySem.boot_len (pa_cons (pv 0) pa_nil)) (nomark _))
    (pss_one (ps_ret (pe_ix ix_list (pv 0) (pv 1) (fun _ _ => rfl))))
    pss_nil)
  (pss_one (ps_ret pe_int))), ?_⟩
  refine ⟨_, rfl, _, rfl, a, _, rfl, .inl ha, _, _, rfl, rfl, _, rfl, ?_⟩
  refine ite2 (fun c => ?_) (fun c => ?_)
  · have c' : (k : Int) < (((ns.map V.int).length : Nat) : Int) := of_decide_eq_true c
    rw [List.length_map] at c'
    have hk : k < ns.length := by omega
    refine ⟨_, rfl, _, rfl, a, _, _, .int (cellAt ns k), rfl, rfl, ha, atI_nat ?_, q⟩
    rw [List.getElem?_map, List.getElem?_eq_getElem hk]
    unfold cellAt
    rw [List.getD_eq_getElem?_getD, List.getElem?_eq_getElem hk]
    rfl
  · have c' : ¬ (k : Int) < (((ns.map V.int).length : Nat) : Int) := of_decide_eq_false (Bool.eq_false_iff.mpr c)
    rw [List.length_map] at c'
    have e : cellAt ns k = 0 := by
      unfold cellAt
      rw [List.getD_eq_getElem?_getD, List.getElem?_eq_none (by omega)]
      rfl
    rw [e] at q
    exact q
def sp_sign : Sp := fun vs H Q _ => ∃ c : Int, vs = [.int c] ∧ Q (.str ⟨#[lsg c]⟩) H
theorem ok__law_sign (T : Txt w K mg) : FnOk P w K mg base CX0 1 T.f__law_sign T.fd__law_sign ["_law_cell"] sp_sign := by
  refine T.F__law_sign.ok sc__law_sign (fun vs H Q E h => ?_) (fun cdv A outer s H vs Q E hr h => ?_)
  · obtain ⟨c, rfl, _⟩ := h
    rfl
  obtain ⟨c, rfl, q⟩ := h
  refine ⟨_, (pss_cons (ps_set (i := 1) sc__law_sign.nd rfl (.inl rfl) pe_str)
  (pss_cons (ps_set (i := 1) sc__law_sign.nd rfl (.inl rfl) (pe_op op_add_str (pv 1) pe_str))
  (pss_one (ps_ret (pe_ix ix_str (pv 1) (pe_op op_mod (pv 0) pe_int) (fun _ _ => rfl)))))), ?_⟩
  refine ⟨_, rfl, _, _, rfl, rfl, sz (by decide +kernel), ?_⟩
  refine ⟨_, rfl, _, rfl, _, _, rfl, rfl, (by show (0 : Int) < 95; decide), tabS, _, lsg c, rfl, rfl, sz (by rw [tab_len]; decide), lsg_at c, q⟩

end
end G1

set_option maxRecDepth 100000
set_option maxHeartbeats 4000000
namespace G1
open PySem PySem.Spec PyProof.Rows L2 Gm
section
variable {P : Program} {w : World} {K : PySem.W.Frag} {mg : Str → Option Value} {base : Heap}
def sp_leaf (K : PySem.W.Frag) : Sp := fun vs H Q _ => ∃ (c h : Int), vs = [.int c, .int h] ∧
  ∀ (t : Addr) (p : Pat) (H' : Hp), Same H H' → Ent K H' p (.ref t) → siz p = 1 → Q (.ref t) H'
theorem ok__law_leaf (T : Txt w K mg) : FnOk P w K mg base CX0 2 T.f__law_leaf T.fd__law_leaf ["_law_cell", "_law_head"] (sp_leaf K) := by
  refine T.F__law_leaf.ok sc__law_leaf (fun vs H Q E h => ?_) (fun cdv A outer s H vs Q E hr h => ?_)
  · obtain ⟨c, h, rfl, _⟩ := h
    rfl
  obtain ⟨c, h, rfl, q⟩ := h
  refine ⟨_, (pss_cons (ps_if (PW.pt (pw_and (pt_cmpR op_eq (pe_op op_mod (pv 0) pe_int) pe_int (nomark _)) (pw_and1 (pt_cmpR op_eq (pe_op op_mod (pe_op op_fdiv (pv 0) pe_int) pe_int) pe_int (nomark _)))))
    (pss_one (ps_ret (pe_tup (pa_cons (pe_tup (pa_cons pe_str pa_nil)) (pa_cons pe_bl pa_nil)))))
    pss_nil)
  (pss_cons (ps_if (pt_cmpR op_eq (pe_op op_mod (pv 0) pe_int) pe_int (nomark _))
    (pss_one (ps_ret (pe_tup (pa_cons (pe_tup (pa_cons pe_str pa_nil)) (pa_cons pe_bl pa_nil)))))
    pss_nil)
  (pss_cons (ps_if (pt_cmpR op_eq (pe_op op_mod (pv 0) pe_int) pe_int (nomark _))
    (pss_one (ps_ret (pe_tup (pa_cons (pe_tup (pa_cons pe_str (pa_cons (pe_call (ok__law_sign T) (hr.mono (by decide)) (by rfl) T.m__law_sign T.F__law_sign.kp T.b__law_sign .nil pass0 (pa_cons (pe_op op_fdiv (pv 0) pe_int) pa_nil)) pa_nil))) (pa_cons pe_bl pa_nil)))))
    pss_nil)
  (pss_cons (ps_if (pt_cmpR op_eq (pe_op op_mod (pv 0) pe_int) pe_int (nomark _))
    (pss_one (ps_ret (pe_tup (pa_cons (pe_tup (pa_cons pe_str (pa_cons (pe_call (ok__law_sign T) (hr.mono (by decide)) (by rfl) T.m__law_sign T.F__law_sign.kp T.b__law_sign .nil pass0 (pa_cons (pe_op op_fdiv (pv 1) pe_int) pa_nil)) pa_nil))) (pa_cons pe_bl pa_nil)))))
    pss_nil)
  (pss_one (ps_ret (pe_tup (pa_cons (pe_tup (pa_cons pe_str (pa_cons (pe_call (ok__law_sign T) (hr.mono (by decide)) (by rfl) T.m__law_sign T.F__law_sign.kp T.b__law_sign .nil pass0 (pa_cons (pv 1) pa_nil)) pa_nil))) (pa_cons pe_bl pa_nil))))))))), ?_⟩
  refine ⟨_, rfl, _, _, rfl, rfl, (by show (0 : Int) < 6; decide), rfl, _, rfl, ?_⟩
  refine ite2 (fun c1 => ?_) (fun c1 => ?_)
  · refine ⟨_, rfl, _, _, rfl, rfl, ⟨by decide, by decide⟩, _, _, rfl, rfl, (by show (0 : Int) < 3; decide), rfl, _, rfl, ?_⟩
    refine ite2 (fun c2 => ?_) (fun c2 => ?_)
    · refine ⟨sz (by show 1 ≤ 10000; decide), fun t1 n1 => ⟨sz (by show 2 ≤ 10000; decide), fun t2 n2 => ?_⟩⟩
      exact q t2 .none _ ((same_new n1).trans (same_new n2)) (Ent.mk n2 ⟨t1, rfl, SqT.of upd_same⟩ rfl) rfl
    · refine ⟨_, rfl, _, _, rfl, rfl, (by show (0 : Int) < 6; decide), rfl, _, rfl, ?_⟩
      refine ite2 (fun c3 => ?_) (fun c3 => absurd c1 c3)
      refine ⟨sz (by show 1 ≤ 10000; decide), fun t1 n1 => ⟨sz (by show 2 ≤ 10000; decide), fun t2 n2 => ?_⟩⟩
      exact q t2 .any _ ((same_new n1).trans (same_new n2)) (Ent.mk n2 ⟨t1, rfl, SqT.of upd_same⟩ rfl) rfl
  refine iteF ?_
  refine ⟨_, rfl, _, _, rfl, rfl, (by show (0 : Int) < 6; decide), rfl, _, rfl, ?_⟩
  refine ite2 (fun c3 => absurd c3 c1) (fun c3 => ?_)
  refine ⟨_, rfl, _, _, rfl, rfl, (by show (0 : Int) < 6; decide), rfl, _, rfl, ?_⟩
  refine ite2 (fun c4 => ?_) (fun c4 => ?_)
  · refine ⟨_, rfl, _, _, rfl, rfl, ⟨by decide, by decide⟩, _, rfl, ?_⟩
    refine ⟨sz (by show 2 ≤ 10000; decide), fun t1 n1 => ⟨sz (by show 2 ≤ 10000; decide), fun t2 n2 => ?_⟩⟩
    exact q t2 (.sign _) _ ((same_new n1).trans (same_new n2)) (Ent.mk n2 ⟨t1, rfl, lsg_lt _, SqT.of upd_same⟩ rfl) rfl
  refine ⟨_, rfl, _, _, rfl, rfl, (by show (0 : Int) < 6; decide), rfl, _, rfl, ?_⟩
  refine ite2 (fun c5 => ?_) (fun c5 => ?_)
  · refine ⟨_, rfl, _, _, rfl, rfl, ⟨by decide, by decide⟩, _, rfl, ?_⟩
    refine ⟨sz (by show 2 ≤ 10000; decide), fun t1 n1 => ⟨sz (by show 2 ≤ 10000; decide), fun t2 n2 => ?_⟩⟩
    exact q t2 (.sign _) _ ((same_new n1).trans (same_new n2)) (Ent.mk n2 ⟨t1, rfl, lsg_lt _, SqT.of upd_same⟩ rfl) rfl
  · refine ⟨_, rfl, _, rfl, ?_⟩
    refine ⟨sz (by show 2 ≤ 10000; decide), fun t1 n1 => ⟨sz (by show 2 ≤ 10000; decide), fun t2 n2 => ?_⟩⟩
    exact q t2 (.sign _) _ ((same_new n1).trans (same_new n2)) (Ent.mk n2 ⟨t1, rfl, lsg_lt _, SqT.of upd_same⟩ rfl) rfl

end
end G1

set_option maxRecDepth 100000
set_option maxHeartbeats 4000000
namespace G1
open PySem PySem.Spec PyProof.Rows L2 Gm
section
variable {P : Program} {w : World} {K : PySem.W.Frag} {mg : Str → Option Value} {base : Heap}
def sp_two (K : PySem.W.Frag) : Sp := fun vs H Q _ => ∃ (c : Int) (l r : V) (p1 p2 : Pat), vs = [.int c, l, r] ∧ Ent K H p1 l ∧ Ent K H p2 r ∧
  ∀ (t : Addr) (p : Pat) (H' : Hp), Same H H' → Ent K H' p (.ref t) → siz p = 1 + siz p1 + siz p2 → Q (.ref t) H'
theorem ok__law_two (T : Txt w K mg) : FnOk P w K mg base CX0 1 T.f__law_two T.fd__law_two ["_law_cell", "_law_left", "_law_right"] (sp_two K) := by
  refine T.F__law_two.ok sc__law_two (fun vs H Q E h => ?_) (fun cdv A outer s H vs Q E hr h => ?_)
  · obtain ⟨c, l, r, p1, p2, rfl, _⟩ := h
    rfl
  obtain ⟨c, l, r, p1, p2, rfl, ⟨a1, x1, rfl, h1, u1⟩, ⟨a2, x2, rfl, h2, u2⟩, q⟩ := h
  refine ⟨_, (pss_cons (ps_if (pt_cmpR op_eq (pe_op op_mod (pv 0) pe_int) pe_int (nomark _))
    (pss_one (ps_ret (pe_tup (pa_cons (pe_tup (pa_cons pe_str (pa_cons (pe_ix ix_tup (pv 1) pe_int (fun _ _ => rfl)) (pa_cons (pe_ix ix_tup (pv 2) pe_int (fun _ _ => rfl)) pa_nil)))) (pa_cons (pe_and (pe_ix ix_tup (pv 1) pe_int (fun _ _ => rfl)) (pe_one (pe_ix ix_tup (pv 2) pe_int (fun _ _ => rfl)))) pa_nil)))))
    pss_nil)
  (pss_one (ps_ret (pe_tup (pa_cons (pe_tup (pa_cons pe_str (pa_cons (pe_ix ix_tup (pv 1) pe_int (fun _ _ => rfl)) (pa_cons (pe_ix ix_tup (pv 2) pe_int (fun _ _ => rfl)) pa_nil)))) (pa_cons (pe_or (pe_ix ix_tup (pv 1) pe_int (fun _ _ => rfl)) (pe_one (pe_ix ix_tup (pv 2) pe_int (fun _ _ => rfl)))) pa_nil)))))), ?_⟩
  refine ⟨_, rfl, _, _, rfl, rfl, (by show (0 : Int) < 2; decide), rfl, _, rfl, ?_⟩
  refine ite2 (fun _ => ?_) (fun _ => ?_)
  · refine ⟨_, rfl, _, _, _, _, rfl, rfl, h1, at0 rfl, _, rfl, _, _, _, _, rfl, rfl, h2, at0 rfl, sz (by show 3 ≤ 10000; decide), fun t1 n1 => ?_⟩
    have s1 := same_new (o := .tup [.str "row", x1, x2]) n1
    have h1' := TS.of (K := K) s1 _ _ h1
    have h2' := TS.of (K := K) s1 _ _ h2
    have fin : ∀ {b : Bool}, nul p1 = true ∧ b = nul p2 ∨ nul p1 = false ∧ b = false → ([V.ref t1, V.bl b] : List V).length ≤ sizeLine ∧ ∀ t2, upd H t1 (.tup [.str "row", x1, x2]) t2 = none → Q (.ref t2) (upd (upd H t1 (.tup [.str "row", x1, x2])) t2 (.tup [.ref t1, .bl b])) := fun {b} hb => ⟨sz (by show 2 ≤ 10000; decide), fun t2 n2 =>
      q t2 (.row p1 p2) _ (s1.trans (same_new n2)) (Ent.mk n2 ⟨t1, x1, x2, rfl, SqT.of upd_same, u1.mono (TS.of s1), u2.mono (TS.of s1)⟩ (by rcases hb with ⟨e, f⟩ | ⟨e, f⟩ <;> simp [nul, e, f])) (siz_row _ _)⟩
    refine ⟨_, rfl, _, _, _, _, rfl, rfl, h1', at1 rfl, _, rfl, ?_⟩
    refine ite2 (fun c1 => ?_) (fun c1 => ?_)
    · exact ⟨_, rfl, _, _, _, _, rfl, rfl, h2', at1 rfl, fin (.inl ⟨c1, rfl⟩)⟩
    · exact fin (.inr ⟨Bool.eq_false_iff.mpr c1, rfl⟩)
  · refine ⟨_, rfl, _, _, _, _, rfl, rfl, h1, at0 rfl, _, rfl, _, _, _, _, rfl, rfl, h2, at0 rfl, sz (by show 3 ≤ 10000; decide), fun t1 n1 => ?_⟩
    have s1 := same_new (o := .tup [.str "or", x1, x2]) n1
    have h1' := TS.of (K := K) s1 _ _ h1
    have h2' := TS.of (K := K) s1 _ _ h2
    have fin : ∀ {b : Bool}, nul p1 = false ∧ b = nul p2 ∨ nul p1 = true ∧ b = true → ([V.ref t1, V.bl b] : List V).length ≤ sizeLine ∧ ∀ t2, upd H t1 (.tup [.str "or", x1, x2]) t2 = none → Q (.ref t2) (upd (upd H t1 (.tup [.str "or", x1, x2])) t2 (.tup [.ref t1, .bl b])) := fun {b} hb => ⟨sz (by show 2 ≤ 10000; decide), fun t2 n2 =>
      q t2 (.or p1 p2) _ (s1.trans (same_new n2)) (Ent.mk n2 ⟨t1, x1, x2, rfl, SqT.of upd_same, u1.mono (TS.of s1), u2.mono (TS.of s1)⟩ (by rcases hb with ⟨e, f⟩ | ⟨e, f⟩ <;> simp [nul, e, f])) (siz_or _ _)⟩
    refine ⟨_, rfl, _, _, _, _, rfl, rfl, h1', at1 rfl, _, rfl, ?_⟩
    refine ite2 (fun c1 => ?_) (fun c1 => ?_)
    · exact fin (.inr ⟨c1, rfl⟩)
    · exact ⟨_, rfl, _, _, _, _, rfl, rfl, h2', at1 rfl, fin (.inl ⟨Bool.eq_false_iff.mpr c1, rfl⟩)⟩
def sp_round (K : PySem.W.Frag) : Sp := fun vs H Q _ => ∃ (c : Int) (l : V) (h : Int) (p1 : Pat), vs = [.int c, l, .int h] ∧ Ent K H p1 l ∧
  ∀ (t : Addr) (p : Pat) (H' : Hp), Same H H' → Ent K H' p (.ref t) → siz p ≤ 3 + siz p1 → Q (.ref t) H'
theorem ok__law_round (T : Txt w K mg) : FnOk P w K mg base CX0 2 T.f__law_round T.fd__law_round ["_law_cell", "_law_part", "_law_head"] (sp_round K) := by
  refine T.F__law_round.ok sc__law_round (fun vs H Q E h => ?_) (fun cdv A outer s H vs Q E hr h => ?_)
  · obtain ⟨c, l, h, p1, rfl, _⟩ := h
    rfl
  obtain ⟨c, l, h, p1, rfl, ⟨a1, x1, rfl, h1, u1⟩, q⟩ := h
  refine ⟨_, (pss_cons (ps_set (i := 3) sc__law_round.nd rfl (.inl rfl) (pe_ix ix_tup (pv 1) pe_int (fun _ _ => rfl)))
  (C8.pss_cut (ps_if (PW.pt (pw_and (pt_val (pe_ix ix_tup (pv 1) pe_int (fun _ _ => rfl))) (pw_and1 (pt_cmpR op_gt (pe_op op_mod (pv 2) pe_int) pe_int (nomark _)))))
    (pss_one (ps_set (i := 3) sc__law_round.nd rfl (.inl rfl) (pe_tup (pa_cons pe_str (pa_cons (pe_tup (pa_cons pe_str (pa_cons (pe_call (ok__law_sign T) (hr.mono (by decide)) (by rfl) T.m__law_sign T.F__law_sign.kp T.b__law_sign .nil pass0 (pa_cons (pv 2) pa_nil)) pa_nil))) (pa_cons (pv 3) pa_nil))))))
    pss_nil)
  (pss_one (ps_ret (pe_tup (pa_cons (pe_ix ix_list (pe_lst (pa_cons (pe_tup (pa_cons pe_str (pa_cons (pv 3) pa_nil))) (pa_cons (pe_tup (pa_cons pe_str (pa_cons (pv 3) pa_nil))) pa_nil))) (pe_op op_mod (pv 0) pe_int) (fun _ _ => rfl)) (pa_cons pe_bl pa_nil))))))), ?_⟩
  refine ⟨_, rfl, _, _, _, _, rfl, rfl, h1, at0 rfl, ?_⟩
  refine ⟨fun σ' H' => ∃ (p2 : Pat) (x2 : V), σ' = [some (.int c), some (.ref a1), some (.int h), some x2] ∧ Same H H' ∧ PAt K H' p2 x2 ∧ siz p2 ≤ 2 + siz p1, ?_, ?_⟩
  · refine ⟨_, rfl, _, _, _, _, rfl, rfl, h1, at1 rfl, _, rfl, ?_⟩
    refine ite2 (fun c1 => ?_) (fun c1 => ?_)
    · refine ⟨_, rfl, _, _, rfl, rfl, (by show (0 : Int) < 4; decide), _, _, rfl, rfl, _, rfl, ?_⟩
      refine ite2 (fun c2 => ?_) (fun c2 => ?_)
      · refine ⟨_, rfl, _, rfl, sz (by show 2 ≤ 10000; decide), fun t1 n1 => ?_⟩
        refine ⟨_, rfl, sz (by show 3 ≤ 10000; decide), fun t2 n2 => ?_⟩
        have s2 := (same_new (o := .tup [.str "sign", .str ⟨#[lsg h]⟩]) n1).trans (same_new (o := .tup [.str "row", .ref t1, x1]) n2)
        refine ⟨.row (.sign (lsg h)) p1, .ref t2, rfl, s2, ⟨t2, .ref t1, x1, rfl, SqT.of upd_same, ⟨t1, rfl, lsg_lt h, TS.new n2 _ _ (SqT.of upd_same)⟩, u1.mono (TS.of s2)⟩, ?_⟩
        rw [siz_row, show siz (.sign (lsg h)) = 1 from rfl]
        omega
      · exact ⟨p1, x1, rfl, Same.refl _, u1, by omega⟩
    · exact ⟨p1, x1, rfl, Same.refl _, u1, by omega⟩
  · rintro σ' H1 ⟨p2, x2, rfl, s1, u2, z2⟩
    refine ⟨_, rfl, sz (by show 2 ≤ 10000; decide), fun t1 n1 => ?_⟩
    refine ⟨_, rfl, sz (by show 2 ≤ 10000; decide), fun t2 n2 => ⟨sz (by show 2 ≤ 10000; decide), fun t3 n3 => ?_⟩⟩
    have s2 := same_new (o := .tup [.str "more", x2]) n1
    have s3 := s2.trans (same_new (o := .tup [.str "less", x2]) n2)
    have s4 := s3.trans (same_new (o := .lst [.ref t1, .ref t2]) n3)
    have e2 : ∃ (v : V) (p3 : Pat), atI [V.ref t1, V.ref t2] (c % 2) = some v ∧ PAt K (upd (upd (upd H1 t1 (.tup [.str "more", x2])) t2 (.tup [.str "less", x2])) t3 (.lst [.ref t1, .ref t2])) p3 v ∧ nul p3 = true ∧ siz p3 ≤ 3 + siz p1 := by
      have k0 := Int.emod_nonneg c (show (2 : Int) ≠ 0 by decide)
      have k1 := Int.emod_lt_of_pos c (show (0 : Int) < 2 by decide)
      by_cases k : c % 2 = 0
      · rw [k]
        refine ⟨.ref t1, .more p2, at0 rfl, ⟨t1, x2, rfl, TS.of ((same_new n2).trans (same_new n3)) _ _ (SqT.of upd_same), u2.mono (TS.of s4)⟩, rfl, ?_⟩
        rw [siz_more]
        omega
      · have k' : c % 2 = 1 := by omega
        rw [k']
        refine ⟨.ref t2, .less p2, at1 rfl, ⟨t2, x2, rfl, TS.of (same_new n3) _ _ (SqT.of upd_same), u2.mono (TS.of s4)⟩, rfl, ?_⟩
        rw [siz_less]
        omega
    obtain ⟨v, p3, ev, u3, nu3, z3⟩ := e2
    refine ⟨_, rfl, _, _, rfl, rfl, (by show (0 : Int) < 2; decide), t3, _, _, v, rfl, rfl, SqL.of upd_same, ev, ?_⟩
    refine ⟨sz (by show 2 ≤ 10000; decide), fun t4 n4 => ?_⟩
    exact q t4 p3 _ ((s1.trans s4).trans (same_new n4)) (Ent.mk n4 u3 nu3) z3

end
end G1

set_option maxRecDepth 100000
set_option maxHeartbeats 4000000
namespace G1
open PySem PySem.Spec PyProof.Rows L2 Gm
section
variable {P : Program} {w : World} {K : PySem.W.Frag} {mg : Str → Option Value} {base : Heap}
def sp_made (K : PySem.W.Frag) : Sp := fun vs H Q _ => ∃ (a : Addr) (ns : List Int) (h : Int), vs = [.ref a, .int h] ∧ SqL K H a (ns.map V.int) ∧ ns.length ≤ 24 ∧
  ∀ (v : V) (p : Pat) (H' : Hp), Same H H' → Ent K H' p v → siz p ≤ 1000 → Q v H'
def mInv (K : PySem.W.Frag) (H : Hp) (a lp : Addr) (h step : Int) (n : Nat) (σ : L2.St) (H' : Hp) : Prop :=
  ∃ (num : Int) (ps : List Pat) (vs : List V) (x5 x6 x7 x8 : Option V), σ = [some (.ref a), some (.int h), some (.ref lp), some (.int step), some (.int num), x5, x6, x7, x8] ∧ Same H H' ∧
    H' lp = some (.lst vs) ∧ Paired (Ent K H') ps vs ∧ 0 ≤ num ∧ tot ps + ps.length ≤ n
/-- a new one laid on the pile -/
theorem pile_push {H' H2 : Hp} {lp : Addr} {ps : List Pat} {vs : List V} {p : Pat} {v : V} (h : H2 lp = some (.lst vs)) (hp : Paired (Ent K H2) ps vs) (u : Ent K H2 p v) :
    Paired (Ent K (upd H2 lp (.lst (vs ++ [v])))) (ps ++ [p]) (vs ++ [v]) :=
  Paired.snoc (Paired.mapP hp fun _ _ z => z.mono (TS.lst h)) (u.mono (TS.lst h))
theorem ok__law_made (T : Txt w K mg) : FnOk P w K mg base CX0 3 T.f__law_made T.fd__law_made ["_law_cells", "_law_head"] (sp_made K) := by
  refine T.F__law_made.ok sc__law_made (fun vs H Q E h => ?_) (fun cdv A outer s H vs Q E hr h => ?_)
  · obtain ⟨a, ns, h, rfl, _⟩ := h
    rfl
  obtain ⟨a, ns, h, rfl, ha, h24, q⟩ := h
  refine ⟨_, (pss_cons (ps_set (i := 2) sc__law_made.nd rfl (.inl rfl) (pe_lst pa_nil))
  (pss_cons (ps_set (i := 3) sc__law_made.nd rfl (.inl rfl) (pe_op op_add pe_int (pe_op op_mod (pe_op op_fdiv (pv 1) pe_int) pe_int)))
  (pss_cons (ps_set (i := 4) sc__law_made.nd rfl (.inl rfl) (pe_op op_mod (pv 1) (pv 3)))
  (pss_cons (ps_for PassesOwn.never rfl (pi_list (pv 0)) (pg_name (i := 5) sc__law_made.nd rfl (.inl rfl))
   (pss_cons (ps_set (i := 6) sc__law_made.nd rfl (.inl rfl) (pe_op op_mod (pv 5) pe_int))
  (pss_one (ps_if (PW.pt (pw_or (pt_cmpR op_lt (pv 6) pe_int (nomark _)) (pw_or (pt_cmpR op_eq (pe_callB call_len_seq (by rfl) T.n_len PySem.boot_len (pa_cons (pv 2) pa_nil)) pe_int (nomark _)) (pw_or1 (PW.pt (pw_and (pt_cmpR op_lt (pv 6) pe_int (nomark _)) (pw_and1 (pt_cmpR op_lt (pe_callB call_len_seq (by rfl) T.n_len PySem.boot_len (pa_cons (pv 2) pa_nil)) pe_int (nomark _)))))))))
    (pss_one (ps_expr (pe_bm PySem.F.plainAttrs_list PySem.F.slot_list_append PySem.F.type_list_append mt_append (pv 2) (pa_cons (pe_call (ok__law_leaf T) (hr.mono (by decide)) (by rfl) T.m__law_leaf T.F__law_leaf.kp T.b__law_leaf .nil pass0 (pa_cons (pe_op op_fdiv (pv 5) pe_int) (pa_cons (pv 1) pa_nil))) pa_nil))))
    (pss_one (ps_if (pt_cmpR op_lt (pv 6) pe_int (nomark _))
    (pss_cons (ps_set (i := 7) sc__law_made.nd rfl (.inl rfl) (pe_bm0 PySem.F.plainAttrs_list PySem.F.slot_list_pop PySem.F.type_list_pop mt_pop (pv 2)))
  (pss_one (ps_expr (pe_bm PySem.F.plainAttrs_list PySem.F.slot_list_append PySem.F.type_list_append mt_append (pv 2) (pa_cons (pe_call (ok__law_two T) (hr.mono (by decide)) (by rfl) T.m__law_two T.F__law_two.kp T.b__law_two .nil pass0 (pa_cons (pe_op op_fdiv (pv 5) pe_int) (pa_cons (pe_bm0 PySem.F.plainAttrs_list PySem.F.slot_list_pop PySem.F.type_list_pop mt_pop (pv 2)) (pa_cons (pv 7) pa_nil)))) pa_nil)))))
    (pss_one (ps_if (pt_cmpR op_lt (pv 6) pe_int (nomark _))
    (pss_one (ps_expr (pe_bm PySem.F.plainAttrs_list PySem.F.slot_list_append PySem.F.type_list_append mt_append (pv 2) (pa_cons (pe_call (ok__law_round T) (hr.mono (by decide)) (by rfl) T.m__law_round T.F__law_round.kp T.b__law_round .nil pass0 (pa_cons (pe_op op_fdiv (pv 5) pe_int) (pa_cons (pe_bm0 PySem.F.plainAttrs_list PySem.F.slot_list_pop PySem.F.type_list_pop mt_pop (pv 2)) (pa_cons (pv 1) pa_nil)))) pa_nil))))
    (pss_cons (ps_set (i := 4) sc__law_made.nd rfl (.inl rfl) (pe_op op_add (pv 4) (pv 3)))
  (pss_cons (ps_set (i := 8) sc__law_made.nd rfl (.inl rfl) (pe_bm0 PySem.F.plainAttrs_list PySem.F.slot_list_pop PySem.F.type_list_pop mt_pop (pv 2)))
  (pss_one (ps_expr (pe_bm PySem.F.plainAttrs_list PySem.F.slot_list_append PySem.F.type_list_append mt_append (pv 2) (pa_cons (pe_tup (pa_cons (pe_tup (pa_cons pe_str (pa_cons (pv 4) (pa_cons (pe_ix ix_tup (pv 8) pe_int (fun _ _ => rfl)) pa_nil)))) (pa_cons (pe_ix ix_tup (pv 8) pe_int (fun _ _ => rfl)) pa_nil))) pa_nil))))))))))))))
  (pss_cons (ps_while PassesOwn.never (pt_cmpR op_gt (pe_callB call_len_seq (by rfl) T.n_len PySem.boot_len (pa_cons (pv 2) pa_nil)) pe_int (nomark _))
   (pss_cons (ps_set (i := 7) sc__law_made.nd rfl (.inl rfl) (pe_bm0 PySem.F.plainAttrs_list PySem.F.slot_list_pop PySem.F.type_list_pop mt_pop (pv 2)))
  (pss_one (ps_expr (pe_bm PySem.F.plainAttrs_list PySem.F.slot_list_append PySem.F.type_list_append mt_append (pv 2) (pa_cons (pe_call (ok__law_two T) (hr.mono (by decide)) (by rfl) T.m__law_two T.F__law_two.kp T.b__law_two .nil pass0 (pa_cons pe_int (pa_cons (pe_bm0 PySem.F.plainAttrs_list PySem.F.slot_list_pop PySem.F.type_list_pop mt_pop (pv 2)) (pa_cons (pv 7) pa_nil)))) pa_nil))))))
  (pss_cons (ps_if (pt_cmpR op_eq (pe_callB call_len_seq (by rfl) T.n_len PySem.boot_len (pa_cons (pv 2) pa_nil)) pe_int (nomark _))
    (pss_one (ps_ret (pe_tup (pa_cons (pe_tup (pa_cons pe_str pa_nil)) (pa_cons pe_bl pa_nil)))))
    pss_nil)
  (pss_one (ps_ret (pe_ix ix_list (pv 2) pe_int (fun _ _ => rfl)))))))))), ?_⟩
  refine ⟨Nat.zero_le _, fun lp np => ?_⟩
  have k0 := Int.emod_nonneg (h / 7) (show (900 : Int) ≠ 0 by decide)
  refine ⟨_, rfl, _, _, rfl, rfl, ⟨by decide, by decide⟩, _, _, rfl, rfl, (by show (0 : Int) < 900; decide), _, _, rfl, rfl, ?_⟩
  have kstep : (0 : Int) < 1 + h / 7 % 900 := by omega
  refine ⟨_, rfl, _, rfl, _, _, rfl, rfl, kstep, ?_⟩
  have kn := Int.emod_nonneg h (show (1 + h / 7 % 900 : Int) ≠ 0 by omega)
  refine ⟨_, rfl, a, rfl, ⟨_, (same_new np).seq ha⟩, for_list (K := K) (a := a) (xs := ns.map V.int) (fun i => mInv K H a lp h (1 + h / 7 % 900) (5 * i))
    ⟨h % (1 + h / 7 % 900), [], [], none, none, none, none, rfl, same_new np, upd_same, .nil, kn, Nat.le_refl _⟩ (fun i σ H' _ hI => ?_) ?_ ?_⟩
  · obtain ⟨_, _, _, _, _, _, _, _, s1, _⟩ := hI
    exact s1.seq ha
  · rintro i y σ H1 hi ⟨num, ps, vs, x5, x6, x7, x8, rfl, s1, hp, pv, kn, kt⟩
    have hi24 : i < 24 := by
      have q1 := (List.getElem?_eq_some_iff.mp hi).1
      rw [List.length_map] at q1
      omega
    obtain ⟨c, rfl⟩ : ∃ c, y = V.int c := by
      rw [List.getElem?_map] at hi
      cases e : ns[i]? with
      | none =>
        rw [e] at hi
        cases hi
      | some u =>
        rw [e] at hi
        exact ⟨u, (Option.some.inj hi).symm⟩
    have lpv : ps.length = vs.length := Paired.length pv
    refine ⟨_, rfl, _, _, rfl, rfl, (by show (0 : Int) < 10; decide), ?_⟩
    refine g_nx ?_
    refine if_tst (b := decide (c % 10 < 4) || (decide (V.int ((vs.length : Nat) : Int) = V.int 0) || (decide (c % 10 < 7) && decide (((vs.length : Nat) : Int) < 2)))) (tst_or (fun Q q => ⟨_, rfl, _, _, rfl, rfl, _, rfl, q⟩) (tst_or (fun Q q => ⟨_, rfl, lp, _, rfl, .inl (SqL.of hp), rfl, _, rfl, q⟩)
      (tst_and (fun Q q => ⟨_, rfl, _, _, rfl, rfl, _, rfl, q⟩) (fun Q q => ⟨_, rfl, lp, _, rfl, .inl (SqL.of hp), _, _, rfl, rfl, _, rfl, q⟩)))) (fun c1 => ?_) (fun c1 => ?_)
    · -- a leaf
      refine ⟨_, rfl, .inl ⟨rfl, _, SqL.of hp⟩, _, rfl, _, _, rfl, rfl, ⟨by decide, by decide⟩, _, rfl, _, _, rfl, fun t p H2 s2 u z => ?_⟩
      have hp2 := s2 _ _ hp
      have pv2 := Paired.mapP pv fun _ _ (z : Ent K H1 _ _) => z.mono (TS.of s2)
      refine ⟨lp, vs, .ref t, rfl, rfl, hp2, szl (by have := len_tot ps; omega), ?_⟩
      refine ⟨num, ps ++ [p], vs ++ [.ref t], _, _, _, _, rfl, Same.mut (s1.trans s2) np, upd_same, pile_push (H' := H2) hp2 pv2 u, kn, ?_⟩
      rw [tot_snoc, List.length_append, List.length_singleton, z]
      omega
    rw [Bool.or_eq_false_iff, Bool.or_eq_false_iff] at c1
    obtain ⟨ca, cb, cc⟩ := c1
    have n0 : vs.length ≠ 0 := fun z => of_decide_eq_false cb (by rw [z]; rfl)
    refine ⟨_, rfl, _, _, rfl, rfl, _, rfl, ?_⟩
    refine ite2 (fun c2 => ?_) (fun c2 => ?_)
    · -- two together
      have n2 : 2 ≤ vs.length := by
        rw [c2, Bool.true_and] at cc
        have := of_decide_eq_false cc
        omega
      obtain ⟨psA, pR, vsA, vR, rfl, rfl, pvA, uR⟩ := Paired.last pv (by omega)
      have lA : psA.length = vsA.length := Paired.length pvA
      rw [List.length_append, List.length_singleton] at n2
      obtain ⟨psB, pL, vsB, vL, rfl, rfl, pvB, uL⟩ := Paired.last pvA (by omega)
      refine ⟨_, rfl, .inl ⟨rfl, _, SqL.of hp⟩, lp, _, vR, rfl, rfl, hp, last_get _ _, ?_⟩
      rw [List.dropLast_concat]
      have hp1 : upd H1 lp (.lst (vsB ++ [vL])) lp = some (.lst (vsB ++ [vL])) := upd_same
      have t1 : TS K H1 (upd H1 lp (.lst (vsB ++ [vL]))) := TS.lst hp
      have t2 := t1.trans (TS.lst (K := K) (ys := vsB) hp1)
      refine ⟨_, rfl, .inl ⟨rfl, _, SqL.of hp1⟩, _, rfl, _, _, rfl, rfl, ⟨by decide, by decide⟩, _, rfl, .inl ⟨rfl, _, SqL.of hp1⟩, lp, _, vL, rfl, rfl, hp1, last_get _ _, ?_⟩
      rw [List.dropLast_concat]
      refine ⟨_, rfl, _, vL, vR, pL, pR, rfl, uL.mono t2, uR.mono t2, fun t p H2 s2 u z => ?_⟩
      have hp2 := s2 _ _ (upd_same (H := upd H1 lp (.lst (vsB ++ [vL]))) (a := lp) (o := .lst vsB))
      have pv2 := Paired.mapP pvB fun _ _ (z : Ent K H1 _ _) => z.mono (t2.trans (TS.of s2))
      rw [tot_snoc, tot_snoc] at kt
      simp only [List.length_append, List.length_singleton] at kt lpv lA n2
      refine ⟨lp, vsB, .ref t, rfl, rfl, hp2, szl (by have := len_tot psB; omega), ?_⟩
      refine ⟨num, psB ++ [p], vsB ++ [.ref t], _, _, _, _, rfl, Same.mut ((Same.mut (Same.mut s1 np) np).trans s2) np, upd_same, pile_push (H' := H2) hp2 pv2 u, kn, ?_⟩
      rw [tot_snoc, List.length_append, List.length_singleton, z]
      omega
    refine ⟨_, rfl, _, _, rfl, rfl, _, rfl, ?_⟩
    obtain ⟨psA, pR, vsA, vR, rfl, rfl, pvA, uR⟩ := Paired.last pv (by omega)
    have t1 : TS K H1 (upd H1 lp (.lst vsA)) := TS.lst hp
    have hp1 : upd H1 lp (.lst vsA) lp = some (.lst vsA) := upd_same
    rw [tot_snoc] at kt
    simp only [List.length_append, List.length_singleton] at kt lpv
    refine ite2 (fun c3 => ?_) (fun c3 => ?_)
    · -- a round
      refine ⟨_, rfl, .inl ⟨rfl, _, SqL.of hp⟩, _, rfl, _, _, rfl, rfl, ⟨by decide, by decide⟩, _, rfl, .inl ⟨rfl, _, SqL.of hp⟩, lp, _, vR, rfl, rfl, hp, last_get _ _, ?_⟩
      rw [List.dropLast_concat]
      refine ⟨_, rfl, _, vR, h, pR, rfl, uR.mono t1, fun t p H2 s2 u z => ?_⟩
      have hp2 := s2 _ _ hp1
      have pv2 := Paired.mapP pvA fun _ _ (z : Ent K H1 _ _) => z.mono (t1.trans (TS.of s2))
      refine ⟨lp, vsA, .ref t, rfl, rfl, hp2, szl (by have := len_tot psA; omega), ?_⟩
      refine ⟨num, psA ++ [p], vsA ++ [.ref t], _, _, _, _, rfl, Same.mut ((Same.mut s1 np).trans s2) np, upd_same, pile_push (H' := H2) hp2 pv2 u, kn, ?_⟩
      rw [tot_snoc, List.length_append, List.length_singleton]
      omega
    · -- a group
      refine ⟨_, rfl, _, rfl, _, _, rfl, rfl, ?_⟩
      refine ⟨_, rfl, .inl ⟨rfl, _, SqL.of hp⟩, lp, _, vR, rfl, rfl, hp, last_get _ _, ?_⟩
      rw [List.dropLast_concat]
      obtain ⟨aR, xR, rfl, hR, uX⟩ := uR
      have hR1 := t1 _ _ hR
      refine ⟨_, rfl, .inl ⟨rfl, _, SqL.of hp1⟩, _, rfl, _, rfl, _, _, _, _, rfl, rfl, hR1, at0 rfl, sz (by show 3 ≤ 10000; decide), fun t2 n2 => ?_⟩
      have s2 := same_new (o := .tup [.str "group", .int (num + (1 + h / 7 % 900)), xR]) n2
      have hR2 := TS.of (K := K) s2 _ _ hR1
      refine ⟨_, rfl, _, _, _, _, rfl, rfl, hR2, at1 rfl, sz (by show 2 ≤ 10000; decide), fun t3 n3 => ?_⟩
      have s3 := s2.trans (same_new (o := .tup [.ref t2, .bl (nul pR)]) n3)
      have u : Ent K (upd (upd (upd H1 lp (.lst vsA)) t2 (.tup [.str "group", .int (num + (1 + h / 7 % 900)), xR])) t3 (.tup [.ref t2, .bl (nul pR)])) (.group (num + (1 + h / 7 % 900)) pR) (.ref t3) :=
        Ent.mk n3 ⟨t2, xR, rfl, by omega, SqT.of upd_same, uX.mono (t1.trans (TS.of s2))⟩ rfl
      have hp2 := s3 _ _ hp1
      have pv2 := Paired.mapP pvA fun _ _ (z : Ent K H1 _ _) => z.mono (t1.trans (TS.of s3))
      refine ⟨lp, vsA, .ref t3, rfl, rfl, hp2, szl (by have := len_tot psA; omega), ?_⟩
      refine ⟨num + (1 + h / 7 % 900), psA ++ [.group (num + (1 + h / 7 % 900)) pR], vsA ++ [.ref t3], _, _, _, _, rfl, Same.mut ((Same.mut s1 np).trans s3) np, upd_same, pile_push (H' := H1) hp2 pv2 u, by omega, ?_⟩
      rw [tot_snoc, List.length_append, List.length_singleton, siz_group]
      omega
  -- what is left on the pile
  rintro σ H1 ⟨num, ps, vs, x5, x6, x7, x8, rfl, s1, hp, pv, kn, kt⟩
  rw [List.length_map] at kt
  refine ⟨fun m σ' H' => ∃ (ps : List Pat) (vs : List V) (x7 : Option V), σ' = [some (.ref a), some (.int h), some (.ref lp), some (.int (1 + h / 7 % 900)), some (.int num), x5, x6, x7, x8] ∧ Same H H' ∧
    H' lp = some (.lst vs) ∧ Paired (Ent K H') ps vs ∧ tot ps + ps.length ≤ 5 * ns.length ∧ m = vs.length, ⟨_, ps, vs, x7, rfl, s1, hp, pv, kt, rfl⟩, ?_⟩
  clear hp pv kt s1 ps vs
  rintro m σ' H2 ⟨ps, vs, x7', rfl, s1, hp, pv, kt, rfl⟩
  have lpv : ps.length = vs.length := Paired.length pv
  refine ⟨_, rfl, lp, _, rfl, .inl (SqL.of hp), _, _, rfl, rfl, _, rfl, ?_⟩
  refine ite2 (fun c1 => ?_) (fun c1 => ?_)
  · have n2 : 1 < vs.length := by
      have : (1 : Int) < ((vs.length : Nat) : Int) := of_decide_eq_true c1
      omega
    obtain ⟨psA, pR, vsA, vR, rfl, rfl, pvA, uR⟩ := Paired.last pv (by omega)
    have lA : psA.length = vsA.length := Paired.length pvA
    rw [List.length_append, List.length_singleton] at n2
    obtain ⟨psB, pL, vsB, vL, rfl, rfl, pvB, uL⟩ := Paired.last pvA (by omega)
    refine ⟨fun σ' H' => ∃ (ps : List Pat) (vs : List V) (x7 : Option V), σ' = [some (.ref a), some (.int h), some (.ref lp), some (.int (1 + h / 7 % 900)), some (.int num), x5, x6, x7, x8] ∧ Same H H' ∧
      H' lp = some (.lst vs) ∧ Paired (Ent K H') ps vs ∧ tot ps + ps.length ≤ 5 * ns.length ∧ vs.length = vsB.length + 1, fun σ' H' ⟨ps, vs, x7, e1, e2, e3, e4, e5, e6⟩ => ⟨vs.length, ?_, ps, vs, x7, e1, e2, e3, e4, e5, rfl⟩, ?_⟩
    · simp only [List.length_append, List.length_singleton]
      omega
    refine ⟨_, rfl, .inl ⟨rfl, _, SqL.of hp⟩, lp, _, vR, rfl, rfl, hp, last_get _ _, ?_⟩
    rw [List.dropLast_concat]
    have hp1 : upd H2 lp (.lst (vsB ++ [vL])) lp = some (.lst (vsB ++ [vL])) := upd_same
    have t1 : TS K H2 (upd H2 lp (.lst (vsB ++ [vL]))) := TS.lst hp
    have t2 := t1.trans (TS.lst (K := K) (ys := vsB) hp1)
    refine ⟨_, rfl, .inl ⟨rfl, _, SqL.of hp1⟩, _, rfl, .inl ⟨rfl, _, SqL.of hp1⟩, lp, _, vL, rfl, rfl, hp1, last_get _ _, ?_⟩
    rw [List.dropLast_concat]
    refine ⟨_, rfl, _, vL, vR, pL, pR, rfl, uL.mono t2, uR.mono t2, fun t p H3 s2 u z => ?_⟩
    have hp2 := s2 _ _ (upd_same (H := upd H2 lp (.lst (vsB ++ [vL]))) (a := lp) (o := .lst vsB))
    have pv2 := Paired.mapP pvB fun _ _ (z : Ent K H2 _ _) => z.mono (t2.trans (TS.of s2))
    rw [tot_snoc, tot_snoc] at kt
    simp only [List.length_append, List.length_singleton] at kt lpv lA n2
    refine ⟨lp, vsB, .ref t, rfl, rfl, hp2, szl (by have := len_tot psB; omega), ?_⟩
    refine ⟨psB ++ [p], vsB ++ [.ref t], _, rfl, Same.mut ((Same.mut (Same.mut s1 np) np).trans s2) np, upd_same, pile_push (H' := H2) hp2 pv2 u, ?_, by rw [List.length_append, List.length_singleton]⟩
    rw [tot_snoc, List.length_append, List.length_singleton, z]
    omega
  refine ⟨_, rfl, lp, _, rfl, .inl (SqL.of hp), rfl, _, rfl, ?_⟩
  refine ite2 (fun c2 => ?_) (fun c2 => ?_)
  · refine ⟨sz (by show 1 ≤ 10000; decide), fun t1 n1 => ⟨sz (by show 2 ≤ 10000; decide), fun t2 n2 => ?_⟩⟩
    exact q (.ref t2) .none _ ((s1.trans (same_new n1)).trans (same_new n2)) (Ent.mk n2 ⟨t1, rfl, SqT.of upd_same⟩ rfl) (show 1 ≤ 1000 by decide)
  · have n1 : vs.length = 1 := by
      have h1 : ¬ (1 : Int) < ((vs.length : Nat) : Int) := of_decide_eq_false (Bool.eq_false_iff.mpr c1)
      have h2 : vs.length ≠ 0 := fun z => c2 (by rw [z]; rfl)
      omega
    obtain ⟨ps', p, vs', v, rfl, rfl, pv', u⟩ := Paired.last pv (by omega)
    rw [List.length_append, List.length_singleton] at n1
    have e' : vs' = [] := List.length_eq_zero_iff.mp (by omega)
    subst e'
    rw [List.nil_append] at hp
    refine ⟨_, rfl, lp, _, _, v, rfl, rfl, SqL.of hp, at0 rfl, ?_⟩
    refine q v p H2 s1 u ?_
    rw [tot_snoc] at kt
    omega

end
end G1

set_option maxRecDepth 100000
set_option maxHeartbeats 4000000
namespace G1
open PySem PySem.Spec PyProof.Rows L2 Gm
section
variable {P : Program} {w : World} {K : PySem.W.Frag} {mg : Str → Option Value} {base : Heap}
theorem cut_int (ns : List Int) (i j : Nat) : ∃ ns' : List Int, cutV (ns.map V.int) (some (i : Int)) (some (j : Int)) = ns'.map V.int ∧ ns'.length ≤ j - i := by
  unfold cutV
  rw [HT.sIx_nat, HT.sIx_nat]
  refine ⟨(ns.drop (min i (ns.map V.int).length)).take (min j (ns.map V.int).length - min i (ns.map V.int).length), ?_, ?_⟩
  · rw [List.map_take, List.map_drop]
  · rw [List.length_take]
    omega
def spLaw (K : PySem.W.Frag) : Sp := fun vs H Q _ => ∃ (a : Addr) (ns : List Int), vs = [.ref a] ∧ SqL K H a (ns.map V.int) ∧ ns.length ≤ 63 ∧ ∀ H', Q (.bl true) H'
theorem ok_law (T : Txt w K mg) : FnOk P w K mg base CX0 5 T.f_law T.fd_law ["_law_script"] (spLaw K) := by
  refine T.F_law.ok sc_law (fun vs H Q E h => ?_) (fun cdv A outer s H vs Q E hr h => ?_)
  · obtain ⟨a, ns, rfl, _⟩ := h
    rfl
  obtain ⟨a, ns, rfl, ha, h63, q⟩ := h
  refine ⟨_, (pss_cons (ps_set (i := 1) sc_law.nd rfl (.inl rfl) (pe_call (ok__law_made T) (hr.mono (by decide)) (by rfl) T.m__law_made T.F__law_made.kp T.b__law_made .nil pass0 (pa_cons (pe_slice sl_list (pv 0) (po_some pe_int) (po_some pe_int)) (pa_cons (pe_call (ok__law_cell_at T) (hr.mono (by decide)) (by rfl) T.m__law_cell_at T.F__law_cell_at.kp T.b__law_cell_at .nil pass0 (pa_cons (pv 0) (pa_cons pe_int pa_nil))) pa_nil))))
  (pss_cons (ps_set (i := 2) sc_law.nd rfl (.inl rfl) (pe_call (ok_takes_nothing T) (hr.mono (by decide)) (by rfl) T.m_takes_nothing T.F_takes_nothing.kp T.b_takes_nothing .nil pass0 (pa_cons (pe_ix ix_tup (pv 1) pe_int (fun _ _ => rfl)) pa_nil)))
  (pss_one (ps_ret (pe_and (pe_callB call_isi (by rfl) T.n_isinstance (by decide +kernel) (pa_cons (pv 2) (pa_cons (pe_bltn (v := .ty "bool") (by rfl) T.n_bool (by decide +kernel) rfl) pa_nil))) (pe_one (pe_cmpR op_eq (pv 2) (pe_ix ix_tup (pv 1) pe_int (fun _ _ => rfl)) (nomark _)))))))), ?_⟩
  refine ⟨_, rfl, _, rfl, _, rfl, a, _, rfl, ha, fun p1 n1 => ?_⟩
  obtain ⟨ns', e', z'⟩ := cut_int ns 1 25
  have s1 := same_new (o := .lst (cutV (ns.map V.int) (some 1) (some 25))) n1
  refine ⟨_, rfl, a, ns, 0, rfl, s1.seq ha, ?_⟩
  refine ⟨p1, ns', cellAt ns 0, rfl, ?_, by omega, fun v p H2 s2 u z => ?_⟩
  · rw [← e']
    exact SqL.of upd_same
  obtain ⟨t, x, rfl, ht, hx⟩ := u
  refine ⟨_, rfl, _, _, _, _, rfl, rfl, ht, at0 rfl, p, x, rfl, hx, z, fun H3 s3 => ?_⟩
  have ht3 := TS.of (K := K) s3 _ _ ht
  refine ⟨_, rfl, _, _, _, _, true, rfl, .ty _, .base (.bl _), kit_ty (by decide +kernel), _, rfl, iteT ?_⟩
  refine ⟨_, rfl, _, rfl, _, _, _, _, rfl, rfl, ht3, at1 rfl, rfl, ?_⟩
  have e : decide (V.bl (nul p) = V.bl (nul p)) = true := decide_eq_true rfl
  show Q (.bl (decide (V.bl (nul p) = V.bl (nul p)))) H3
  rw [e]
  exact q _

end
end G1

set_option maxRecDepth 100000
set_option maxHeartbeats 4000000
namespace G1
open PySem PySem.Spec PyProof.Rows L2 Gm
theorem all_mk {l : PySem.W.OpenLaw} {w : World} {K : PySem.W.Frag} {h : Heap} {mg : Str → Option Value} {fa : Addr} (X : K.In h) (G : h.Ns mainGlobals mg) (hfa : mg "law" = some (.ref fa))
    {f0 : Addr} {od0 an0 : Option Addr} {sl0 : Array (Option Value)} {oc0 kV0 dc0 pm0 cd0 ct0 : Value}
    {f1 : Addr} {od1 an1 : Option Addr} {sl1 : Array (Option Value)} {oc1 kV1 dc1 pm1 cd1 ct1 : Value}
    {f2 : Addr} {od2 an2 : Option Addr} {sl2 : Array (Option Value)} {oc2 kV2 dc2 pm2 cd2 ct2 : Value}
    {f3 : Addr} {od3 an3 : Option Addr} {sl3 : Array (Option Value)} {oc3 kV3 dc3 pm3 cd3 ct3 : Value}
    {f4 : Addr} {od4 an4 : Option Addr} {sl4 : Array (Option Value)} {oc4 kV4 dc4 pm4 cd4 ct4 : Value}
    {f5 : Addr} {od5 an5 : Option Addr} {sl5 : Array (Option Value)} {oc5 kV5 dc5 pm5 cd5 ct5 : Value}
    {f6 : Addr} {od6 an6 : Option Addr} {sl6 : Array (Option Value)} {oc6 kV6 dc6 pm6 cd6 ct6 : Value}
    {f7 : Addr} {od7 an7 : Option Addr} {sl7 : Array (Option Value)} {oc7 kV7 dc7 pm7 cd7 ct7 : Value}
    {f8 : Addr} {od8 an8 : Option Addr} {sl8 : Array (Option Value)} {oc8 kV8 dc8 pm8 cd8 ct8 : Value}
    {f9 : Addr} {od9 an9 : Option Addr} {sl9 : Array (Option Value)} {oc9 kV9 dc9 pm9 cd9 ct9 : Value}
    {f10 : Addr} {od10 an10 : Option Addr} {sl10 : Array (Option Value)} {oc10 kV10 dc10 pm10 cd10 ct10 : Value}
    {f11 : Addr} {od11 an11 : Option Addr} {sl11 : Array (Option Value)} {oc11 kV11 dc11 pm11 cd11 ct11 : Value}
    {f12 : Addr} {od12 an12 : Option Addr} {sl12 : Array (Option Value)} {oc12 kV12 dc12 pm12 cd12 ct12 : Value}
    {f13 : Addr} {od13 an13 : Option Addr} {sl13 : Array (Option Value)} {oc13 kV13 dc13 pm13 cd13 ct13 : Value}
    {f14 : Addr} {od14 an14 : Option Addr} {sl14 : Array (Option Value)} {oc14 kV14 dc14 pm14 cd14 ct14 : Value}
    {dL : Addr} {esL : Array DictEntry} {nL : Nat}
    {tk0 : Tok}
    {tk1 : Tok}
    {tk2 : Tok}
    {tk3 : Tok}
    {tk4 : Tok}
    {tk5 : Tok}
    {tk6 : Tok}
    {tk7 : Tok}
    (a0 : PySem.W.nsIn K mainGlobals "parts" = some (some (.ref f0))) (l0 : K.lookup f0 = some ⟨oc0, od0, .func (PySem.W.fnOf "parts" "parts" (defArgs s_parts) (defBody s_parts) (defScope s_parts) .none kV0 dc0 pm0 an0 cd0 ct0), sl0⟩) (c0 : PySem.W.codeIn K cd0 "parts" = true) (k0 : PySem.W.keepIn K (.ref f0) = true)
    (a1 : PySem.W.nsIn K mainGlobals "takes_nothing" = some (some (.ref f1))) (l1 : K.lookup f1 = some ⟨oc1, od1, .func (PySem.W.fnOf "takes_nothing" "takes_nothing" (defArgs s_takes_nothing) (defBody s_takes_nothing) (defScope s_takes_nothing) .none kV1 dc1 pm1 an1 cd1 ct1), sl1⟩) (c1 : PySem.W.codeIn K cd1 "takes_nothing" = true) (k1 : PySem.W.keepIn K (.ref f1) = true)
    (a2 : PySem.W.nsIn K mainGlobals "_has_form" = some (some (.ref f2))) (l2 : K.lookup f2 = some ⟨oc2, od2, .func (PySem.W.fnOf "_has_form" "_has_form" (defArgs s__has_form) (defBody s__has_form) (defScope s__has_form) .none kV2 dc2 pm2 an2 cd2 ct2), sl2⟩) (c2 : PySem.W.codeIn K cd2 "_has_form" = true) (k2 : PySem.W.keepIn K (.ref f2) = true)
    (a3 : PySem.W.nsIn K mainGlobals "_is_sign" = some (some (.ref f3))) (l3 : K.lookup f3 = some ⟨oc3, od3, .func (PySem.W.fnOf "_is_sign" "_is_sign" (defArgs s__is_sign) (defBody s__is_sign) (defScope s__is_sign) .none kV3 dc3 pm3 an3 cd3 ct3), sl3⟩) (c3 : PySem.W.codeIn K cd3 "_is_sign" = true) (k3 : PySem.W.keepIn K (.ref f3) = true)
    (a4 : PySem.W.nsIn K mainGlobals "_is_group_number" = some (some (.ref f4))) (l4 : K.lookup f4 = some ⟨oc4, od4, .func (PySem.W.fnOf "_is_group_number" "_is_group_number" (defArgs s__is_group_number) (defBody s__is_group_number) (defScope s__is_group_number) .none kV4 dc4 pm4 an4 cd4 ct4), sl4⟩) (c4 : PySem.W.codeIn K cd4 "_is_group_number" = true) (k4 : PySem.W.keepIn K (.ref f4) = true)
    (a5 : PySem.W.nsIn K mainGlobals "_inner" = some (some (.ref f5))) (l5 : K.lookup f5 = some ⟨oc5, od5, .func (PySem.W.fnOf "_inner" "_inner" (defArgs s__inner) (defBody s__inner) (defScope s__inner) .none kV5 dc5 pm5 an5 cd5 ct5), sl5⟩) (c5 : PySem.W.codeIn K cd5 "_inner" = true) (k5 : PySem.W.keepIn K (.ref f5) = true)
    (a6 : PySem.W.nsIn K mainGlobals "_takings" = some (some (.ref f6))) (l6 : K.lookup f6 = some ⟨oc6, od6, .func (PySem.W.fnOf "_takings" "_takings" (defArgs s__takings) (defBody s__takings) (defScope s__takings) .none kV6 dc6 pm6 an6 cd6 ct6), sl6⟩) (c6 : PySem.W.codeIn K cd6 "_takings" = true) (k6 : PySem.W.keepIn K (.ref f6) = true)
    (a7 : PySem.W.nsIn K mainGlobals "_may_take_nothing" = some (some (.ref f7))) (l7 : K.lookup f7 = some ⟨oc7, od7, .func (PySem.W.fnOf "_may_take_nothing" "_may_take_nothing" (defArgs s__may_take_nothing) (defBody s__may_take_nothing) (defScope s__may_take_nothing) .none kV7 dc7 pm7 an7 cd7 ct7), sl7⟩) (c7 : PySem.W.codeIn K cd7 "_may_take_nothing" = true) (k7 : PySem.W.keepIn K (.ref f7) = true)
    (a8 : PySem.W.nsIn K mainGlobals "_law_cell_at" = some (some (.ref f8))) (l8 : K.lookup f8 = some ⟨oc8, od8, .func (PySem.W.fnOf "_law_cell_at" "_law_cell_at" (defArgs s__law_cell_at) (defBody s__law_cell_at) (defScope s__law_cell_at) .none kV8 dc8 pm8 an8 cd8 ct8), sl8⟩) (c8 : PySem.W.codeIn K cd8 "_law_cell_at" = true) (k8 : PySem.W.keepIn K (.ref f8) = true)
    (a9 : PySem.W.nsIn K mainGlobals "_law_sign" = some (some (.ref f9))) (l9 : K.lookup f9 = some ⟨oc9, od9, .func (PySem.W.fnOf "_law_sign" "_law_sign" (defArgs s__law_sign) (defBody s__law_sign) (defScope s__law_sign) .none kV9 dc9 pm9 an9 cd9 ct9), sl9⟩) (c9 : PySem.W.codeIn K cd9 "_law_sign" = true) (k9 : PySem.W.keepIn K (.ref f9) = true)
    (a10 : PySem.W.nsIn K mainGlobals "_law_leaf" = some (some (.ref f10))) (l10 : K.lookup f10 = some ⟨oc10, od10, .func (PySem.W.fnOf "_law_leaf" "_law_leaf" (defArgs s__law_leaf) (defBody s__law_leaf) (defScope s__law_leaf) .none kV10 dc10 pm10 an10 cd10 ct10), sl10⟩) (c10 : PySem.W.codeIn K cd10 "_law_leaf" = true) (k10 : PySem.W.keepIn K (.ref f10) = true)
    (a11 : PySem.W.nsIn K mainGlobals "_law_two" = some (some (.ref f11))) (l11 : K.lookup f11 = some ⟨oc11, od11, .func (PySem.W.fnOf "_law_two" "_law_two" (defArgs s__law_two) (defBody s__law_two) (defScope s__law_two) .none kV11 dc11 pm11 an11 cd11 ct11), sl11⟩) (c11 : PySem.W.codeIn K cd11 "_law_two" = true) (k11 : PySem.W.keepIn K (.ref f11) = true)
    (a12 : PySem.W.nsIn K mainGlobals "_law_round" = some (some (.ref f12))) (l12 : K.lookup f12 = some ⟨oc12, od12, .func (PySem.W.fnOf "_law_round" "_law_round" (defArgs s__law_round) (defBody s__law_round) (defScope s__law_round) .none kV12 dc12 pm12 an12 cd12 ct12), sl12⟩) (c12 : PySem.W.codeIn K cd12 "_law_round" = true) (k12 : PySem.W.keepIn K (.ref f12) = true)
    (a13 : PySem.W.nsIn K mainGlobals "_law_made" = some (some (.ref f13))) (l13 : K.lookup f13 = some ⟨oc13, od13, .func (PySem.W.fnOf "_law_made" "_law_made" (defArgs s__law_made) (defBody s__law_made) (defScope s__law_made) .none kV13 dc13 pm13 an13 cd13 ct13), sl13⟩) (c13 : PySem.W.codeIn K cd13 "_law_made" = true) (k13 : PySem.W.keepIn K (.ref f13) = true)
    (a14 : PySem.W.nsIn K mainGlobals "law" = some (some (.ref f14))) (l14 : K.lookup f14 = some ⟨oc14, od14, .func (PySem.W.fnOf "law" "law" (defArgs s_law) (defBody s_law) (defScope s_law) .none kV14 dc14 pm14 an14 cd14 ct14), sl14⟩) (c14 : PySem.W.codeIn K cd14 "law" = true) (k14 : PySem.W.keepIn K (.ref f14) = true)
    (z_all : PySem.W.nsIn K mainGlobals "all" = some none)
    (z_any : PySem.W.nsIn K mainGlobals "any" = some none)
    (z_bool : PySem.W.nsIn K mainGlobals "bool" = some none)
    (z_int : PySem.W.nsIn K mainGlobals "int" = some none)
    (z_isinstance : PySem.W.nsIn K mainGlobals "isinstance" = some none)
    (z_len : PySem.W.nsIn K mainGlobals "len" = some none)
    (z_reversed : PySem.W.nsIn K mainGlobals "reversed" = some none)
    (z_str : PySem.W.nsIn K mainGlobals "str" = some none)
    (z_tuple : PySem.W.nsIn K mainGlobals "tuple" = some none)
    (z_type : PySem.W.nsIn K mainGlobals "type" = some none)
    (aL : PySem.W.nsIn K mainGlobals "LENGTHS" = some (some (.ref dL)))
    (lL : K.lookup dL = some ⟨.type "dict", none, .dict esL nL, #[]⟩)
    (kL : PySem.W.KeysLit w.params esL.toList)
    (yL : (dL == sysModules) = false)
    (gL0 : PySem.W.nsIn K dL "sign" = some (some (.int 2 tk0)))
    (gL1 : PySem.W.nsIn K dL "any" = some (some (.int 1 tk1)))
    (gL2 : PySem.W.nsIn K dL "none" = some (some (.int 1 tk2)))
    (gL3 : PySem.W.nsIn K dL "row" = some (some (.int 3 tk3)))
    (gL4 : PySem.W.nsIn K dL "or" = some (some (.int 3 tk4)))
    (gL5 : PySem.W.nsIn K dL "more" = some (some (.int 2 tk5)))
    (gL6 : PySem.W.nsIn K dL "less" = some (some (.int 2 tk6)))
    (gL7 : PySem.W.nsIn K dL "group" = some (some (.int 3 tk7))) :
    ∃ fd : FuncData, (∀ (s : Shared) (v : Value), BindsTo s fd ⟨[v], []⟩ [("_law_script", v)]) ∧ ∀ base : Heap, K.In base → base.Ns mainGlobals mg → FnOk l.prog w K mg base CX0 5 fa fd ["_law_script"] (spLaw K) := by
  have e := hfa.symm.trans (PySem.W.mg_of X G a14)
  cases e
  have F0 := fun_mk (st := s_parts) l0 c0 k0
  have b0 := F0.binds (ps := ["pattern"]) fun _ _ _ _ _ _ us hl => match us, hl with | [_], _ => rfl
  have F1 := fun_mk (st := s_takes_nothing) l1 c1 k1
  have b1 := F1.binds (ps := ["pattern"]) fun _ _ _ _ _ _ us hl => match us, hl with | [_], _ => rfl
  have F2 := fun_mk (st := s__has_form) l2 c2 k2
  have b2 := F2.binds (ps := ["thing"]) fun _ _ _ _ _ _ us hl => match us, hl with | [_], _ => rfl
  have F3 := fun_mk (st := s__is_sign) l3 c3 k3
  have b3 := F3.binds (ps := ["thing"]) fun _ _ _ _ _ _ us hl => match us, hl with | [_], _ => rfl
  have F4 := fun_mk (st := s__is_group_number) l4 c4 k4
  have b4 := F4.binds (ps := ["thing"]) fun _ _ _ _ _ _ us hl => match us, hl with | [_], _ => rfl
  have F5 := fun_mk (st := s__inner) l5 c5 k5
  have b5 := F5.binds (ps := ["part"]) fun _ _ _ _ _ _ us hl => match us, hl with | [_], _ => rfl
  have F6 := fun_mk (st := s__takings) l6 c6 k6
  have b6 := F6.binds (ps := ["found"]) fun _ _ _ _ _ _ us hl => match us, hl with | [_], _ => rfl
  have F7 := fun_mk (st := s__may_take_nothing) l7 c7 k7
  have b7 := F7.binds (ps := ["name", "inner_answers"]) fun _ _ _ _ _ _ us hl => match us, hl with | [_, _], _ => rfl
  have F8 := fun_mk (st := s__law_cell_at) l8 c8 k8
  have b8 := F8.binds (ps := ["_law_script", "_law_k"]) fun _ _ _ _ _ _ us hl => match us, hl with | [_, _], _ => rfl
  have F9 := fun_mk (st := s__law_sign) l9 c9 k9
  have b9 := F9.binds (ps := ["_law_cell"]) fun _ _ _ _ _ _ us hl => match us, hl with | [_], _ => rfl
  have F10 := fun_mk (st := s__law_leaf) l10 c10 k10
  have b10 := F10.binds (ps := ["_law_cell", "_law_head"]) fun _ _ _ _ _ _ us hl => match us, hl with | [_, _], _ => rfl
  have F11 := fun_mk (st := s__law_two) l11 c11 k11
  have b11 := F11.binds (ps := ["_law_cell", "_law_left", "_law_right"]) fun _ _ _ _ _ _ us hl => match us, hl with | [_, _, _], _ => rfl
  have F12 := fun_mk (st := s__law_round) l12 c12 k12
  have b12 := F12.binds (ps := ["_law_cell", "_law_part", "_law_head"]) fun _ _ _ _ _ _ us hl => match us, hl with | [_, _, _], _ => rfl
  have F13 := fun_mk (st := s__law_made) l13 c13 k13
  have b13 := F13.binds (ps := ["_law_cells", "_law_head"]) fun _ _ _ _ _ _ us hl => match us, hl with | [_, _], _ => rfl
  have F14 := fun_mk (st := s_law) l14 c14 k14
  have b14 := F14.binds (ps := ["_law_script"]) fun _ _ _ _ _ _ us hl => match us, hl with | [_], _ => rfl
  have T : { T : Txt w K mg // T.f_law = fa ∧ T.fd_law = PySem.W.fnOf "law" "law" (defArgs s_law) (defBody s_law) (defScope s_law) .none kV14 dc14 pm14 an14 cd14 ct14 } := ⟨⟨_, _, F0, PySem.W.mg_of X G a0, b0, _, _, F1, PySem.W.mg_of X G a1, b1, _, _, F2, PySem.W.mg_of X G a2, b2, _, _, F3, PySem.W.mg_of X G a3, b3, _, _, F4, PySem.W.mg_of X G a4, b4, _, _, F5, PySem.W.mg_of X G a5, b5, _, _, F6, PySem.W.mg_of X G a6, b6, _, _, F7, PySem.W.mg_of X G a7, b7, _, _, F8, PySem.W.mg_of X G a8, b8, _, _, F9, PySem.W.mg_of X G a9, b9, _, _, F10, PySem.W.mg_of X G a10, b10, _, _, F11, PySem.W.mg_of X G a11, b11, _, _, F12, PySem.W.mg_of X G a12, b12, _, _, F13, PySem.W.mg_of X G a13, b13, _, _, F14, PySem.W.mg_of X G a14, b14, PySem.W.mg_none_of X G z_all, PySem.W.mg_none_of X G z_any, PySem.W.mg_none_of X G z_bool, PySem.W.mg_none_of X G z_int, PySem.W.mg_none_of X G z_isinstance, PySem.W.mg_none_of X G z_len, PySem.W.mg_none_of X G z_reversed, PySem.W.mg_none_of X G z_str, PySem.W.mg_none_of X G z_tuple, PySem.W.mg_none_of X G z_type, dL, PySem.W.mg_of X G aL, ⟨esL, nL, lL, kL⟩, yL, ⟨esL, nL, _, lL, kL, gL0, ⟨tk0, rfl⟩⟩, ⟨esL, nL, _, lL, kL, gL1, ⟨tk1, rfl⟩⟩, ⟨esL, nL, _, lL, kL, gL2, ⟨tk2, rfl⟩⟩, ⟨esL, nL, _, lL, kL, gL3, ⟨tk3, rfl⟩⟩, ⟨esL, nL, _, lL, kL, gL4, ⟨tk4, rfl⟩⟩, ⟨esL, nL, _, lL, kL, gL5, ⟨tk5, rfl⟩⟩, ⟨esL, nL, _, lL, kL, gL6, ⟨tk6, rfl⟩⟩, ⟨esL, nL, _, lL, kL, gL7, ⟨tk7, rfl⟩⟩⟩, rfl, rfl⟩
  obtain ⟨T, rfl, e2⟩ := T
  refine ⟨T.fd_law, fun s v => ?_, fun base _ _ => ok_law T⟩
  rw [e2]
  exact .of_eq rfl
theorem walk {l : PySem.W.OpenLaw} {q : Program} {loose : List Str} {XP : (Str → Option Value) → Heap → Prop} {YP : World → Heap → Prop} {d : DefRec} {K : Params → PySem.W.Frag} (hn : l.most = some 63) (hdf : d.params.defaults = [])
    (hY : ∀ (w : World) (h : Heap), YP w h → (K w.params).In h)
    (F : ∀ (w : World) (mg : Str → Option Value) (fa : Addr) (h : Heap), (K w.params).In h → h.Ns mainGlobals mg → mg d.name = some (.ref fa) →
      ∃ fd : FuncData, (∀ (s : Shared) (u : Value), BindsTo s fd ⟨[u], []⟩ [("_law_script", u)]) ∧ ∀ base : Heap, (K w.params).In base → base.Ns mainGlobals mg → FnOk l.prog w (K w.params) mg base CX0 5 fa fd ["_law_script"] (spLaw (K w.params))) :
    PySem.W.WalkO q loose XP YP l.row.toRowW d [] (fun f vs => PySem.call f vs) :=
  L2.walk_of (n := 63) (k := 5) (x := "_law_script") (CX := fun _ => CX0) (sp := fun w => (spLaw (K w.params))) hn (by decide) hdf ⟨rfl, by decide, by decide⟩ hY F (fun _ _ a ns hl _ hS => ⟨a, ns, rfl, hS, hl, fun _ => rfl⟩) fun _ _ _ _ _ z => z
end G1

open PySem PySem.W PyProof.Rows
set_option maxRecDepth 100000 in
set_option maxHeartbeats 0 in
theorem PySem.Challenge.cw_groupmarks_k01_takes_nothing_holds : PySem.Challenge.rw_groupmarks_k01_takes_nothing.Holds := by
  w_on; o_law; k_head; (case hw => w_witness2)
  k_fill
  refine G1.walk (l := PySem.Challenge.rw_groupmarks_k01_takes_nothing) rfl rfl (fun w h Y => PySem.W.kIn_of Y) ?F
  case F =>
    intro w mg fa h KX G hmg
    refine' G1.all_mk KX G hmg ?a0 ?l0 ?c0 ?k0 ?a1 ?l1 ?c1 ?k1 ?a2 ?l2 ?c2 ?k2 ?a3 ?l3 ?c3 ?k3 ?a4 ?l4 ?c4 ?k4 ?a5 ?l5 ?c5 ?k5 ?a6 ?l6 ?c6 ?k6 ?a7 ?l7 ?c7 ?k7 ?a8 ?l8 ?c8 ?k8 ?a9 ?l9 ?c9 ?k9 ?a10 ?l10 ?c10 ?k10 ?a11 ?l11 ?c11 ?k11 ?a12 ?l12 ?c12 ?k12 ?a13 ?l13 ?c13 ?k13 ?a14 ?l14 ?c14 ?k14 ?z_all ?z_any ?z_bool ?z_int ?z_isinstance ?z_len ?z_reversed ?z_str ?z_tuple ?z_type ?aL ?lL ?kL ?yL ?gL0 ?gL1 ?gL2 ?gL3 ?gL4 ?gL5 ?gL6 ?gL7
    (case a0 => k_is)
    (case l0 => k_is)
    (case c0 => k_is)
    (case k0 => k_is)
    (case a1 => k_is)
    (case l1 => k_is)
    (case c1 => k_is)
    (case k1 => k_is)
    (case a2 => k_is)
    (case l2 => k_is)
    (case c2 => k_is)
    (case k2 => k_is)
    (case a3 => k_is)
    (case l3 => k_is)
    (case c3 => k_is)
    (case k3 => k_is)
    (case a4 => k_is)
    (case l4 => k_is)
    (case c4 => k_is)
    (case k4 => k_is)
    (case a5 => k_is)
    (case l5 => k_is)
    (case c5 => k_is)
    (case k5 => k_is)
    (case a6 => k_is)
    (case l6 => k_is)
    (case c6 => k_is)
    (case k6 => k_is)
    (case a7 => k_is)
    (case l7 => k_is)
    (case c7 => k_is)
    (case k7 => k_is)
    (case a8 => k_is)
    (case l8 => k_is)
    (case c8 => k_is)
    (case k8 => k_is)
    (case a9 => k_is)
    (case l9 => k_is)
    (case c9 => k_is)
    (case k9 => k_is)
    (case a10 => k_is)
    (case l10 => k_is)
    (case c10 => k_is)
    (case k10 => k_is)
    (case a11 => k_is)
    (case l11 => k_is)
    (case c11 => k_is)
    (case k11 => k_is)
    (case a12 => k_is)
    (case l12 => k_is)
    (case c12 => k_is)
    (case k12 => k_is)
    (case a13 => k_is)
    (case l13 => k_is)
    (case c13 => k_is)
    (case k13 => k_is)
    (case a14 => k_is)
    (case l14 => k_is)
    (case c14 => k_is)
    (case k14 => k_is)
    (case z_all => k_is)
    (case z_any => k_is)
    (case z_bool => k_is)
    (case z_int => k_is)
    (case z_isinstance => k_is)
    (case z_len => k_is)
    (case z_reversed => k_is)
    (case z_str => k_is)
    (case z_tuple => k_is)
    (case z_type => k_is)
    (case aL => k_is)
    (case lL => k_is)
    (case kL => first | k_is | exact ⟨⟨_, _, rfl, rfl⟩, ⟨_, _, rfl, rfl⟩, ⟨_, _, rfl, rfl⟩, ⟨_, _, rfl, rfl⟩, ⟨_, _, rfl, rfl⟩, ⟨_, _, rfl, rfl⟩, ⟨_, _, rfl, rfl⟩, ⟨_, _, rfl, rfl⟩, trivial⟩)
    (case yL => first | rfl | decide | k_is)
    (case gL0 => k_is)
    (case gL1 => k_is)
    (case gL2 => k_is)
    (case gL3 => k_is)
    (case gL4 => k_is)
    (case gL5 => k_is)
    (case gL6 => k_is)
    (case gL7 => k_is)
