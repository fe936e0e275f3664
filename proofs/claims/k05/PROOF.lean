import PyProof.Rows.All
import Wide.All
import OpenK.AllK
import Wide.FinOn
import PyProof.TypeEq
import PyProof.InstEq
import HandS.ForMost
import HandS.More
import HandS.Style
import HandS.IsInst
import HandS.Codes
import HandS.TupAny
import HandS.Zip
import HandS.Walk
import PyProof.Rows.MatchSeqLen
import HandS.ListItems
import KE.KDictZip
import KE.KTurns
import KE.KDictCopyH
import HandS.Conv
import HandS.Deep
import PyProof.StrOps2
import HandS.DictComp
import HandS.TryMany
import HandS.ExcIs
import HandS.ExcOwn
import HandS.WordsExc
import PyProof.NeKinds
import HandS.ExcCtx
import HandS.HotCalls
import HandS.TryOnly
import HandS.Hot
import KE.KRevIter
import PySem.Challenge.RW_groupmarks_k05_ways_walked
set_option Elab.async false
set_option linter.all false
set_option maxRecDepth 100000
set_option maxHeartbeats 4000000
namespace Gm
open PySem PySem.Spec PyProof.Rows L2

/-! ### `type(x) != tuple`, of two built-in types -/
theorem slot_type_ne : Slot "type" (cmpInfo .NotEq).2.1 "object.__ne__" :=
  .of (owner := "object") (n := "__ne__") (by rw [typeLookup_type, builtinLookup_eq_fast]; kernel_rfl) (by decide +kernel) (by decide +kernel) (by decide +kernel)
    (by first | exact .inl (by decide +kernel) | exact .inr (by decide +kernel)) (by rw [isSubtype_type]; kernel_rfl)
theorem slot_type_ne_refl : Slot "type" (cmpInfo .NotEq).2.2 "object.__ne__" :=
  .of (owner := "object") (n := "__ne__") (by rw [typeLookup_type, builtinLookup_eq_fast]; kernel_rfl) (by decide +kernel) (by decide +kernel) (by decide +kernel)
    (by first | exact .inl (by decide +kernel) | exact .inr (by decide +kernel)) (by rw [isSubtype_type]; kernel_rfl)
section
variable {prog : Program} {w : World} {A : Around} {E : Value → Shared → Prop} {s : Shared}
theorem ne_entry_same {X : String} (hX : ∀ s' : Shared, s'.TypeIs (.type X) "type") {Q : Fin → Shared → Prop} (hq : Q (.done (.ret (.bool false))) s) :
    wpAny (model prog w) A (Builtin.«object.__ne__» ⟨[.type X, .type X], []⟩) Q E s := by
  unfold Builtin.«object.__ne__»
  repeat (first
    | with_reducible refine wpAny_cRoomFor_or (.inl rfl) ?_
    | (refine wpAny_bind (m := callSpecialIfBound? (.type X) (Str.ofString "__eq__") [.type X]) (wpAny_callSpecialIfBound?_slot (hX _) TypeEq.slot_type_eq
        (call_gives TypeEq.slot_type_eq (hX _) F.entry_object_eq (F.args_object_eq_2 _ _) (TypeEq.object_eq_same rfl (by simp)) ?_)))
    | wp_step)
  refine show wpAny (model prog w) A (truthy (.bool true) >>= fun b => ret (Value.bool !b)) Q E s from ?_
  exact wpAny_bind (wpAny_truthy_bool (wpAny_pure hq))
theorem ne_type_same {X : String} (hX : ∀ s' : Shared, s'.TypeIs (.type X) "type") {Q : Value → Shared → Prop} (h : Q (.bool false) s) : wpAny (model prog w) A (compareOp .NotEq (.type X) (.type X)) Q E s := by
  show wpAny _ A (richCompare .NotEq _ _) Q E s
  refine wpAny_richCompare_same (T := "type") (hX s) (hX s) slot_type_ne ?_
  exact wpAny_call (codeAny_call_builtin slot_type_ne.plain F.cmpEntry_ne (slot_type_ne.check _ _ _ _ _ _ _ _ (hX s) (F.cmpArgs_ne _ _) (ne_entry_same hX ⟨(by intro e; cases e), h⟩)))
end

section
variable {X : Cx}
theorem op_neTy {T : String} (hX : ∀ s' : Shared, s'.TypeIs (.type T) "type") : OpR X (compareOp .NotEq) (fun x y H Q => x = .ty T ∧ y = .ty T ∧ Q (.bl false) H) := by
  intro pins s σ H x y v u Q I rx ry h
  obtain ⟨rfl, rfl, q⟩ := h
  cases (show v = Value.type T from rx)
  cases (show u = Value.type T from ry)
  exact ne_type_same hX (fin_bl I q rfl)
theorem op_eqTy {T : String} (hX : ∀ s' : Shared, s'.TypeIs (.type T) "type") : OpR X (compareOp .Eq) (fun x y H Q => x = .ty T ∧ y = .ty T ∧ Q (.bl true) H) := by
  intro pins s σ H x y v u Q I rx ry h
  obtain ⟨rfl, rfl, q⟩ := h
  cases (show v = Value.type T from rx)
  cases (show u = Value.type T from ry)
  exact TypeEq.eq_type_same hX (fin_bl I q rfl)
end

/-! ### `D.get(k)`, D a dict of the module with text keys -/
def KGet (K : PySem.W.Frag) (w : World) (a : Addr) (x : Str) (o : Option V) : Prop :=
  ∃ es n u, K.lookup a = some ⟨.type "dict", none, .dict es n, #[]⟩ ∧ PySem.W.KeysLit w.params es.toList ∧ PySem.W.nsIn K a x = some u ∧ RelO o u
def tKGet (K : PySem.W.Frag) (w : World) (td ty : TE) : TE := fun σ H Q => td σ H fun x H1 => ∃ a, x = .ref a ∧ (∃ es n, K.lookup a = some ⟨.type "dict", none, .dict es n, #[]⟩ ∧ PySem.W.KeysLit w.params es.toList) ∧ (a == sysModules) = false ∧ ty σ H1 fun y H2 => ∃ z o, y = .str z ∧ KGet K w a z o ∧ Q (o.getD .non) H2
section
variable {X : Cx} {o e : Expr} {apos cpos : Pos} {td ty : TE}
theorem pe_kget (ho : PE X o td) (he : PE X e ty) (m : M1 X o "get" apos e cpos) : PE X (.Call (.Attribute o "get" apos) [e] [] cpos) (tKGet X.K X.w td ty) := by
  refine ⟨fun pins s σ H Q I h => ?_⟩
  refine wpAny_Call_method m.base m.few m.line PySem.F.plainAttrs_dict PySem.F.slot_dict_get PySem.F.type_dict_get (thn (ho.run pins s σ H _ I h) fun u s1 ⟨x, H1, I1, rx, a, ex, ⟨es, n, hl, hk⟩, hd, q1⟩ => ?_)
  subst ex
  obtain rfl : u = Value.ref a := rx
  have hm := PySem.W.mapOf_K (prog := X.prog) (w := X.w) I1.kIn hl hk
  refine ⟨hm.typeIs, fun b q => ?_, ?_⟩
  · cases q
    exact ⟨_, I1.kIn a _ hl, rfl⟩
  rw [m.trees]
  refine Calls.callWith_builtin rfl (Calls.evalArgs_plain (Calls.spliced_cons (thn (he.run pins s1 σ H1 _ I1 q1) fun iv s2 ⟨y, H2, I2, ry, z, ov, ey, g, q2⟩ => Calls.spliced_nil ?_)))
  subst ey
  obtain ⟨t, rfl⟩ := ry
  obtain ⟨es', n', u', hl', hk', e', r'⟩ := g
  have hm2 := PySem.W.mapOf_K (prog := X.prog) (w := X.w) I2.kIn hl' hk'
  refine call_meetsIn PySem.F.slot_dict_get hm2.typeIs PySem.F.entry_dict_get (PySem.F.args_dict_get_2 _ _) (meets_dict_get (strKind X.prog X.w) a (strKind_is X.prog X.w z t) hd) ⟨_, hm2, ?_⟩
  rw [PySem.W.find_K hl' e']
  exact ⟨ov.getD .non, H2, I2.tok _, r'.getD rfl, q2⟩
end
/-! ### len(set(xs)) of whole numbers, whichever -/
def tLenSetG (K : PySem.W.Frag) (ta : TE) : TE := fun σ H Q => ta σ H fun x H1 => ∃ (l : Addr) (ns : List Int), x = .ref l ∧ SqL K H1 l (ns.map V.int) ∧ ns.length ≤ 4000 ∧ Q (.int ((firstMet (fun i => ns.getD i 0) ns.length).length : Nat)) H1
theorem pe_lenSetG {X : Cx} {a : Expr} {ta : TE} {p p2 q pos : Pos} (hg : Gl X "len") (hm : X.mg "len" = none) (hg2 : Gl X "set") (hm2 : X.mg "set" = none) (ha : PE X a ta) (hc : X.calm = true := by rfl)
    (na : starEach [a] X.env = (false, eval a X.env) :: starEach [] X.env := by rfl) : PE X (.Call (.Name "len" p) [.Call (.Name "set" p2) [a] [] q] [] pos) (tLenSetG X.K ta) := by
  refine ⟨fun pins s σ H Q I h => ?_⟩
  refine Call_ (ld_blt I hg hm boot_len ?_)
  refine PyProof.Rows.callWith_builtin1 (PyProof.Rows.args_cons ?_ rfl) rfl rfl
  refine Call_ (ld_blt I hg2 hm2 boot_set ?_)
  refine PyProof.Rows.callWith_type1 (PyProof.Rows.args_cons (thn (ha.run pins s σ H _ I h) fun v s1 ⟨x, H1, I1, r1, q1⟩ => PyProof.Rows.args_nil ?_) na) na rfl
  obtain ⟨l, ns, rfl, hq, hl, q1⟩ := q1
  cases r1
  obtain ⟨its, r, pl, hz⟩ := I1.list hq
  have hlen : its.toArray.size = ns.length := by rw [List.size_toArray, ← r.length, List.length_map]
  refine call_set_list (I1.ok.hd hc) pl.isList (by simpa using RZ.intsAre_vals r) (by rw [hlen]; unfold scanBound; omega) fun h' tk hS hk => ?_
  refine PyProof.Rows.args_nil ?_
  rw [hlen] at hS
  obtain ⟨o, es, ep, t, ho, hex, hd, _, _, _, hf, hn⟩ := hS
  have I2 : Inv X pins σ H1 { s1 with heap := h', toks := tk } := I1.kept fun b o e => hk b o (Heap.lt_size e) e
  have hle := firstMet_length_le (fun i => ns.getD i 0) ns.length
  exact call_len_set ho hex hd hf (by rw [hn] <;> omega) ⟨.int ((firstMet (fun i => ns.getD i 0) ns.length).length : Nat), H1, I2.tok _, ⟨_, by rw [hn]⟩, q1⟩
end Gm

set_option maxRecDepth 100000
set_option maxHeartbeats 4000000
namespace Gm
open PySem PySem.Spec PyProof.Rows L2

/-! ### patterns -/
inductive Pat where
  | sign (c : Nat) | any | none | row (p q : Pat) | or (p q : Pat) | more (p : Pat) | less (p : Pat) | group (n : Int) (p : Pat)
def nul : Pat → Bool
  | .sign _ => false
  | .any => false
  | .none => true
  | .row p q => nul p && nul q
  | .or p q => nul p || nul q
  | .more _ => true
  | .less _ => true
  | .group _ p => nul p
def kids : Pat → List Pat
  | .row p q => [p, q]
  | .or p q => [p, q]
  | .more p => [p]
  | .less p => [p]
  | .group _ p => [p]
  | _ => []
def subs : Pat → List Pat
  | .row p q => .row p q :: (subs p ++ subs q)
  | .or p q => .or p q :: (subs p ++ subs q)
  | .more p => .more p :: subs p
  | .less p => .less p :: subs p
  | .group n p => .group n p :: subs p
  | p => [p]
def subsL (W : List Pat) : List Pat := W.flatMap subs
theorem subsL_nil : subsL [] = [] := rfl
theorem subsL_cons (p : Pat) (W : List Pat) : subsL (p :: W) = subs p ++ subsL W := by
  unfold subsL
  rw [List.flatMap_cons]
theorem subsL_app (V W : List Pat) : subsL (V ++ W) = subsL V ++ subsL W := by
  unfold subsL
  rw [List.flatMap_append]
theorem subs_eq (p : Pat) : subs p = p :: subsL (kids p) := by
  cases p <;> simp [subs, kids, subsL]
def siz (p : Pat) : Nat := (subs p).length
theorem siz_pos (p : Pat) : 0 < siz p := by
  unfold siz
  rw [subs_eq]
  exact Nat.succ_pos _
theorem subsL_pos (W : List Pat) : W.length ≤ (subsL W).length := by
  induction W with
  | nil => exact Nat.le_refl _
  | cons p W ih =>
    rw [subsL_cons, List.length_append, List.length_cons]
    have := siz_pos p
    unfold siz at this
    omega
def nm : Pat → Str
  | .sign _ => "sign"
  | .any => "any"
  | .none => "none"
  | .row _ _ => "row"
  | .or _ _ => "or"
  | .more _ => "more"
  | .less _ => "less"
  | .group _ _ => "group"

/-! ### what the answers of the inner ones give -/
def mtn (z : Str) (bs : List Bool) : Bool :=
  if z = "none" ∨ z = "more" ∨ z = "less" then true else if z = "row" ∨ z = "group" then bs.all id else bs.any id
theorem mtn_row (bs : List Bool) : mtn "row" bs = bs.all id := by
  unfold mtn
  rw [if_neg (by decide +kernel), if_pos (by decide +kernel)]
theorem mtn_group (bs : List Bool) : mtn "group" bs = bs.all id := by
  unfold mtn
  rw [if_neg (by decide +kernel), if_pos (by decide +kernel)]
theorem mtn_or (bs : List Bool) : mtn "or" bs = bs.any id := by
  unfold mtn
  rw [if_neg (by decide +kernel), if_neg (by decide +kernel)]
theorem mtn_more (bs : List Bool) : mtn "more" bs = true := by
  unfold mtn
  rw [if_pos (by decide +kernel)]
theorem mtn_less (bs : List Bool) : mtn "less" bs = true := by
  unfold mtn
  rw [if_pos (by decide +kernel)]
def stk : List Pat → List Bool
  | [] => []
  | x :: L => mtn (nm x) ((stk L).take (kids x).length) :: (stk L).drop (kids x).length
def tk : List Pat → List Bool
  | [] => []
  | x :: L => mtn (nm x) ((stk L).take (kids x).length) :: tk L
def okL : List Pat → Prop
  | [] => True
  | x :: L => (kids x).length ≤ (stk L).length ∧ okL L
theorem okL_drop : ∀ (k : Nat) {L : List Pat}, okL L → okL (L.drop k)
  | 0, _, h => h
  | _ + 1, [], _ => trivial
  | k + 1, _ :: L, h => okL_drop k (L := L) h.2
theorem tk_length : ∀ L : List Pat, (tk L).length = L.length
  | [] => rfl
  | x :: L => by
    show (tk L).length + 1 = L.length + 1
    rw [tk_length L]
theorem stk_le : ∀ L : List Pat, (stk L).length ≤ L.length
  | [] => Nat.le_refl _
  | x :: L => by
    show ((stk L).drop _).length + 1 ≤ L.length + 1
    have := stk_le L
    rw [List.length_drop]
    omega
theorem stk_subs : ∀ (p : Pat) (L : List Pat), stk (subs p ++ L) = nul p :: stk L ∧ tk (subs p ++ L) = (subs p).map nul ++ tk L ∧ (okL L → okL (subs p ++ L))
  | .sign c, L => ⟨rfl, rfl, fun h => ⟨Nat.zero_le _, h⟩⟩
  | .any, L => ⟨rfl, rfl, fun h => ⟨Nat.zero_le _, h⟩⟩
  | .none, L => ⟨rfl, rfl, fun h => ⟨Nat.zero_le _, h⟩⟩
  | .row p q, L => by
    obtain ⟨q1, q2, q3⟩ := stk_subs q L
    obtain ⟨p1, p2, p3⟩ := stk_subs p (subs q ++ L)
    have e : subs (.row p q) ++ L = .row p q :: (subs p ++ (subs q ++ L)) := by
      show (_ :: (subs p ++ subs q)) ++ L = _
      rw [List.cons_append, List.append_assoc]
    rw [e]
    refine ⟨?_, ?_, fun h => ⟨?_, p3 (q3 h)⟩⟩
    · show mtn "row" ((stk (subs p ++ (subs q ++ L))).take 2) :: (stk (subs p ++ (subs q ++ L))).drop 2 = _
      rw [p1, q1]
      simp [mtn_row, mtn_or, mtn_more, mtn_less, mtn_group, nul]
    · show mtn "row" ((stk (subs p ++ (subs q ++ L))).take 2) :: tk (subs p ++ (subs q ++ L)) = _
      rw [p1, q1, p2, q2]
      simp [mtn_row, mtn_or, mtn_more, mtn_less, mtn_group, nul, subs]
    · rw [p1, q1]
      show 2 ≤ _
      simp
  | .or p q, L => by
    obtain ⟨q1, q2, q3⟩ := stk_subs q L
    obtain ⟨p1, p2, p3⟩ := stk_subs p (subs q ++ L)
    have e : subs (.or p q) ++ L = .or p q :: (subs p ++ (subs q ++ L)) := by
      show (_ :: (subs p ++ subs q)) ++ L = _
      rw [List.cons_append, List.append_assoc]
    rw [e]
    refine ⟨?_, ?_, fun h => ⟨?_, p3 (q3 h)⟩⟩
    · show mtn "or" ((stk (subs p ++ (subs q ++ L))).take 2) :: (stk (subs p ++ (subs q ++ L))).drop 2 = _
      rw [p1, q1]
      simp [mtn_row, mtn_or, mtn_more, mtn_less, mtn_group, nul]
    · show mtn "or" ((stk (subs p ++ (subs q ++ L))).take 2) :: tk (subs p ++ (subs q ++ L)) = _
      rw [p1, q1, p2, q2]
      simp [mtn_row, mtn_or, mtn_more, mtn_less, mtn_group, nul, subs]
    · rw [p1, q1]
      show 2 ≤ _
      simp
  | .more p, L => by
    obtain ⟨p1, p2, p3⟩ := stk_subs p L
    refine ⟨?_, ?_, fun h => ⟨?_, p3 h⟩⟩
    · show mtn "more" ((stk (subs p ++ L)).take 1) :: (stk (subs p ++ L)).drop 1 = _
      rw [p1]
      simp [mtn_row, mtn_or, mtn_more, mtn_less, mtn_group, nul]
    · show mtn "more" ((stk (subs p ++ L)).take 1) :: tk (subs p ++ L) = _
      rw [p1, p2]
      simp [mtn_row, mtn_or, mtn_more, mtn_less, mtn_group, nul, subs]
    · show 1 ≤ (stk (subs p ++ L)).length
      rw [p1]
      simp
  | .less p, L => by
    obtain ⟨p1, p2, p3⟩ := stk_subs p L
    refine ⟨?_, ?_, fun h => ⟨?_, p3 h⟩⟩
    · show mtn "less" ((stk (subs p ++ L)).take 1) :: (stk (subs p ++ L)).drop 1 = _
      rw [p1]
      simp [mtn_row, mtn_or, mtn_more, mtn_less, mtn_group, nul]
    · show mtn "less" ((stk (subs p ++ L)).take 1) :: tk (subs p ++ L) = _
      rw [p1, p2]
      simp [mtn_row, mtn_or, mtn_more, mtn_less, mtn_group, nul, subs]
    · show 1 ≤ (stk (subs p ++ L)).length
      rw [p1]
      simp
  | .group n p, L => by
    obtain ⟨p1, p2, p3⟩ := stk_subs p L
    refine ⟨?_, ?_, fun h => ⟨?_, p3 h⟩⟩
    · show mtn "group" ((stk (subs p ++ L)).take 1) :: (stk (subs p ++ L)).drop 1 = _
      rw [p1]
      simp [mtn_row, mtn_or, mtn_more, mtn_less, mtn_group, nul]
    · show mtn "group" ((stk (subs p ++ L)).take 1) :: tk (subs p ++ L) = _
      rw [p1, p2]
      simp [mtn_row, mtn_or, mtn_more, mtn_less, mtn_group, nul, subs]
    · show 1 ≤ (stk (subs p ++ L)).length
      rw [p1]
      simp

/-! ### a pattern in memory -/
section
variable {K : PySem.W.Frag}
/-- tuples stay -/
def TS (K : PySem.W.Frag) (H H' : Hp) : Prop := ∀ a xs, SqT K H a xs → SqT K H' a xs
theorem TS.refl {H : Hp} : TS K H H := fun _ _ h => h
theorem TS.trans {H H1 H2 : Hp} (a : TS K H H1) (b : TS K H1 H2) : TS K H H2 := fun x o h => b x o (a x o h)
theorem TS.of {H H' : Hp} (e : Same H H') : TS K H H' := fun a xs h => by
  rcases h with (h | ⟨o, h⟩) | h
  · exact .inl (.inl (e _ _ h))
  · exact .inl (.inr ⟨o, e _ _ h⟩)
  · exact .inr h
theorem same_new {H : Hp} {p : Addr} {o : HO} (h : H p = none) : Same H (upd H p o) := fun b u q => by
  rw [upd_ne (ne_of_none q h)]
  exact q
theorem TS.new {H : Hp} {p : Addr} {o : HO} (h : H p = none) : TS K H (upd H p o) := TS.of (same_new h)
/-- a list that changes -/
theorem TS.lst {H : Hp} {l : Addr} {xs ys : List V} (h : H l = some (.lst xs)) : TS K H (upd H l (.lst ys)) := fun a zs q => by
  have n : ∀ {o : HO}, H a = some o → o ≠ .lst xs → a ≠ l := fun e d z => by
    rw [z, h] at e
    exact d (Option.some.inj e).symm
  rcases q with (q | ⟨o, q⟩) | q
  · exact .inl (.inl (by rw [upd_ne (n q (fun z => nomatch z))]; exact q))
  · exact .inl (.inr ⟨o, by rw [upd_ne (n q (fun z => nomatch z))]; exact q⟩)
  · exact .inr q
/-- an object that H does not know may change -/
theorem Same.mut {H H' : Hp} {p : Addr} {o : HO} (e : Same H H') (h : H p = none) : Same H (upd H' p o) := fun a u ha => by
  rw [upd_ne (ne_of_none ha h)]
  exact e a u ha

def PAt (K : PySem.W.Frag) (H : Hp) : Pat → V → Prop
  | .sign c, v => ∃ a, v = .ref a ∧ c < 0x110000 ∧ SqT K H a [.str "sign", .str ⟨#[c]⟩]
  | .any, v => ∃ a, v = .ref a ∧ SqT K H a [.str "any"]
  | .none, v => ∃ a, v = .ref a ∧ SqT K H a [.str "none"]
  | .row p q, v => ∃ a x y, v = .ref a ∧ SqT K H a [.str "row", x, y] ∧ PAt K H p x ∧ PAt K H q y
  | .or p q, v => ∃ a x y, v = .ref a ∧ SqT K H a [.str "or", x, y] ∧ PAt K H p x ∧ PAt K H q y
  | .more p, v => ∃ a x, v = .ref a ∧ SqT K H a [.str "more", x] ∧ PAt K H p x
  | .less p, v => ∃ a x, v = .ref a ∧ SqT K H a [.str "less", x] ∧ PAt K H p x
  | .group n p, v => ∃ a x, v = .ref a ∧ 1 ≤ n ∧ SqT K H a [.str "group", .int n, x] ∧ PAt K H p x
theorem PAt.mono {H H' : Hp} (e : TS K H H') : ∀ {p : Pat} {v : V}, PAt K H p v → PAt K H' p v
  | .sign _, _, ⟨a, h, c, t⟩ => ⟨a, h, c, e _ _ t⟩
  | .any, _, ⟨a, h, t⟩ => ⟨a, h, e _ _ t⟩
  | .none, _, ⟨a, h, t⟩ => ⟨a, h, e _ _ t⟩
  | .row _ _, _, ⟨a, x, y, h, t, u, w⟩ => ⟨a, x, y, h, e _ _ t, PAt.mono e u, PAt.mono e w⟩
  | .or _ _, _, ⟨a, x, y, h, t, u, w⟩ => ⟨a, x, y, h, e _ _ t, PAt.mono e u, PAt.mono e w⟩
  | .more _, _, ⟨a, x, h, t, u⟩ => ⟨a, x, h, e _ _ t, PAt.mono e u⟩
  | .less _, _, ⟨a, x, h, t, u⟩ => ⟨a, x, h, e _ _ t, PAt.mono e u⟩
  | .group _ _, _, ⟨a, x, h, n, t, u⟩ => ⟨a, x, h, n, e _ _ t, PAt.mono e u⟩
def PAts (K : PySem.W.Frag) (H : Hp) : List Pat → List V → Prop := Paired (PAt K H)
theorem PAts.mono {H H' : Hp} (e : TS K H H') {L : List Pat} {vs : List V} (h : PAts K H L vs) : PAts K H' L vs := Paired.mapP h fun _ _ z => z.mono e
/-- what stands between the name and the inner patterns -/
def mid : Pat → List V
  | .sign c => [.str ⟨#[c]⟩]
  | .group n _ => [.int n]
  | _ => []
theorem PAt.node {H : Hp} {p : Pat} {v : V} (h : PAt K H p v) : ∃ a ws, v = .ref a ∧ SqT K H a (.str (nm p) :: (mid p ++ ws)) ∧ PAts K H (kids p) ws := by
  cases p with
  | sign c => obtain ⟨a, h, _, t⟩ := h; exact ⟨a, [], h, t, .nil⟩
  | any => obtain ⟨a, h, t⟩ := h; exact ⟨a, [], h, t, .nil⟩
  | none => obtain ⟨a, h, t⟩ := h; exact ⟨a, [], h, t, .nil⟩
  | row p q => obtain ⟨a, x, y, h, t, u, w⟩ := h; exact ⟨a, [x, y], h, t, .cons u (.cons w .nil)⟩
  | or p q => obtain ⟨a, x, y, h, t, u, w⟩ := h; exact ⟨a, [x, y], h, t, .cons u (.cons w .nil)⟩
  | more p => obtain ⟨a, x, h, t, u⟩ := h; exact ⟨a, [x], h, t, .cons u .nil⟩
  | less p => obtain ⟨a, x, h, t, u⟩ := h; exact ⟨a, [x], h, t, .cons u .nil⟩
  | group n p => obtain ⟨a, x, h, _, t, u⟩ := h; exact ⟨a, [x], h, t, .cons u .nil⟩
theorem PAt.num {H : Hp} {n : Int} {p : Pat} {v : V} (h : PAt K H (.group n p) v) : 1 ≤ n := by
  obtain ⟨_, _, _, h, _⟩ := h
  exact h
theorem Paired.app {α β : Type} {F : α → β → Prop} : ∀ {l₁ : List α} {l₂ : List β} {m₁ : List α} {m₂ : List β}, Paired F l₁ l₂ → Paired F m₁ m₂ → Paired F (l₁ ++ m₁) (l₂ ++ m₂)
  | _, _, _, _, .nil, h => h
  | _, _, _, _, .cons a t, h => .cons a (Paired.app t h)
theorem Paired.rev {α β : Type} {F : α → β → Prop} : ∀ {l₁ : List α} {l₂ : List β}, Paired F l₁ l₂ → Paired F l₁.reverse l₂.reverse
  | _, _, .nil => .nil
  | _, _, .cons a t => by
    rw [List.reverse_cons, List.reverse_cons]
    exact Paired.snoc (Paired.rev t) a
theorem Paired.at {α β : Type} {F : α → β → Prop} : ∀ {l₁ : List α} {l₂ : List β} {i : Nat} {y : β}, Paired F l₁ l₂ → l₂[i]? = some y → ∃ x, l₁[i]? = some x ∧ F x y
  | _, _, _, _, .nil, h => by simp at h
  | _, _, 0, y, .cons a _, h => ⟨_, rfl, by rw [← Option.some.inj h]; exact a⟩
  | _, _, i + 1, y, .cons _ t, h => Paired.at (i := i) t h
/-- the last one -/
theorem Paired.last {α β : Type} {F : α → β → Prop} {ps : List α} {vs : List β} (h : Paired F ps vs) (n : 0 < ps.length) : ∃ ps' p vs' v, ps = ps' ++ [p] ∧ vs = vs' ++ [v] ∧ Paired F ps' vs' ∧ F p v := by
  have r := Paired.rev h
  have e1 : ps.reverse.reverse = ps := List.reverse_reverse ps
  have e2 : vs.reverse.reverse = vs := List.reverse_reverse vs
  generalize ps.reverse = ps' at r e1
  generalize vs.reverse = vs' at r e2
  cases r with
  | nil =>
    rw [← e1] at n
    exact absurd n (Nat.lt_irrefl 0)
  | @cons a b l m f t =>
    rw [List.reverse_cons] at e1 e2
    exact ⟨l.reverse, a, m.reverse, b, e1.symm, e2.symm, Paired.rev t, f⟩

/-! ### the law's pieces -/
def cellAt (ns : List Int) (k : Nat) : Int := ns.getD k 0
def tabS : Str := (" !\"#$&'()*+,-./0123456789:;<=>?@ABCDEFGHIJKLMNOPQRSTUVWXYZ[\\]^_`" : Str) ++ ("abcdefghijklmnopqrstuvwxyz{|}~\n" : Str)
theorem tab_len : tabS.length = 95 := by decide +kernel
theorem tab_len' : tabS.cps.toList.length = 95 := by decide +kernel
def lsg (c : Int) : Nat := tabS.cps.toList.getD (c % 95).toNat 0
theorem lsg_at (c : Int) : atI tabS.cps.toList (c % 95) = some (lsg c) := by
  have h0 : 0 ≤ c % 95 := Int.emod_nonneg _ (by decide)
  have h1 : c % 95 < 95 := Int.emod_lt_of_pos _ (by decide)
  have hk : (c % 95).toNat < tabS.cps.toList.length := by
    rw [tab_len']
    omega
  have e : c % 95 = (((c % 95).toNat : Nat) : Int) := by omega
  have q : tabS.cps.toList[(c % 95).toNat]? = some (lsg c) := by
    unfold lsg
    rw [List.getD_eq_getElem?_getD, List.getElem?_eq_getElem hk]
    rfl
  rw [e]
  exact atI_nat q
theorem tab_small : tabS.cps.toList.all (fun c => decide (c < 0x110000)) = true := by decide +kernel
theorem lsg_lt (c : Int) : lsg c < 0x110000 := by
  have h := lsg_at c
  have h0 : 0 ≤ c % 95 := Int.emod_nonneg _ (by decide)
  have h1 : c % 95 < 95 := Int.emod_lt_of_pos _ (by decide)
  unfold lsg
  rw [List.getD_eq_getElem?_getD]
  cases e : tabS.cps.toList[(c % 95).toNat]? with
  | none => exact (by decide : (0 : Nat) < 0x110000)
  | some k =>
    have hm := List.mem_of_getElem? e
    exact of_decide_eq_true (List.all_eq_true.mp tab_small k hm)
/-! ### readings in short -/
theorem or2 {t u : TT} {σ : L2.St} {H : Hp} {b1 b2 : Bool} {Q : Bool → Hp → Prop} (h1 : ∀ Q : Bool → Hp → Prop, Q b1 H → t σ H Q) (h2 : ∀ Q : Bool → Hp → Prop, Q b2 H → u σ H Q) (q : Q (b1 || b2) H) : tOr t u σ H Q := by
  refine h1 _ ?_
  cases b1
  · exact iteF (h2 Q q)
  · exact iteT q
theorem and2 {t u : TT} {σ : L2.St} {H : Hp} {b1 b2 : Bool} {Q : Bool → Hp → Prop} (h1 : ∀ Q : Bool → Hp → Prop, Q b1 H → t σ H Q) (h2 : ∀ Q : Bool → Hp → Prop, Q b2 H → u σ H Q) (q : Q (b1 && b2) H) : tAnd t u σ H Q := by
  refine h1 _ ?_
  cases b1
  · exact iteF q
  · exact iteT (h2 Q q)
theorem g_nx {i : Nat} {v : V} {σ : L2.St} {H : Hp} {a : L2.St → Hp → Prop} {b : VK} {c d : L2.St → Hp → Prop} (h : a (σ.set i (some v)) H) : gName i v σ H (L2.Ends.mk a b c d).nx := h
theorem e_nx {σ : L2.St} {H : Hp} {a : L2.St → Hp → Prop} {b : VK} {c d : L2.St → Hp → Prop} (h : a σ H) : (L2.Ends.mk a b c d).nx σ H := h
theorem g_name {i : Nat} {v : V} {σ : L2.St} {H : Hp} {Q : L2.St → Hp → Prop} (h : Q (σ.set i (some v)) H) : gName i v σ H Q := h
/-- a test that leaves all as it is -/
def Tst (t : TT) (σ : L2.St) (H : Hp) (b : Bool) : Prop := ∀ Q : Bool → Hp → Prop, Q b H → t σ H Q
theorem if_tst {c : TT} {x y : L2.TS} {D : L2.Ends} {σ : L2.St} {H : Hp} {b : Bool} (h : Tst c σ H b) (q1 : b = true → x D σ H) (q2 : b = false → y D σ H) : tIfS c x y D σ H := by
  refine h _ ?_
  cases b
  · exact iteF (q2 rfl)
  · exact iteT (q1 rfl)
theorem tst_or {t u : TT} {σ : L2.St} {H : Hp} {b1 b2 : Bool} (h1 : Tst t σ H b1) (h2 : Tst u σ H b2) : Tst (tOr t u) σ H (b1 || b2) := fun Q q => or2 h1 h2 q
theorem tst_and {t u : TT} {σ : L2.St} {H : Hp} {b1 b2 : Bool} (h1 : Tst t σ H b1) (h2 : Tst u σ H b2) : Tst (tAnd t u) σ H (b1 && b2) := fun Q q => and2 h1 h2 q
theorem yes_if {A B : Hp → Prop} {σ : L2.St} {H : Hp} (h : A H) : tYes σ H (fun b H3 => if b = true then A H3 else B H3) := by
  show if true = true then A H else B H
  rw [if_pos rfl]
  exact h
theorem at0 {α : Type} {xs : List α} {v : α} (h : xs[0]? = some v) : atI xs 0 = some v := atI_nat (j := 0) h
theorem at1 {α : Type} {xs : List α} {v : α} (h : xs[1]? = some v) : atI xs 1 = some v := atI_nat (j := 1) h
theorem at2 {α : Type} {xs : List α} {v : α} (h : xs[2]? = some v) : atI xs 2 = some v := atI_nat (j := 2) h
theorem last_get {α : Type} (xs : List α) (y : α) : (xs ++ [y])[(xs ++ [y]).length - 1]? = some y := by simp
theorem r_pop {H : Hp} {l : Addr} {xs : List V} {y : V} {Q : VK} (h : H l = some (.lst (xs ++ [y]))) (q : Q y (upd H l (.lst xs))) : rPop (.ref l) [] H Q := by
  refine ⟨l, xs ++ [y], y, rfl, rfl, h, by simp, ?_⟩
  rw [List.dropLast_concat]
  exact q
theorem r_ixT {H : Hp} {a : Addr} {xs : List V} {v : V} {Q : VK} (i : Nat) (h : SqT K H a xs) (e : xs[i]? = some v) (q : Q v H) : rIxT K (.ref a) (.int (i : Int)) H Q := ⟨a, xs, i, v, rfl, rfl, h, atI_nat e, q⟩
theorem r_ixL {H : Hp} {a : Addr} {xs : List V} {v : V} {Q : VK} (i : Nat) (h : SqL K H a xs) (e : xs[i]? = some v) (q : Q v H) : rIxL K (.ref a) (.int (i : Int)) H Q := ⟨a, xs, i, v, rfl, rfl, h, atI_nat e, q⟩
theorem sz {n : Nat} (h : n ≤ 10000) : n ≤ sizeLine := Nat.le_trans h (by decide)
theorem szl {n : Nat} (h : n ≤ 10000) : n < sizeLine := Nat.lt_of_le_of_lt h (by decide)
theorem inV3 (z a b c : Str) : inV (.str z) [.str a, .str b, .str c] = decide (z = a ∨ z = b ∨ z = c) := by
  rw [Bool.eq_iff_iff]
  show ((a == z) || ((b == z) || ((c == z) || false))) = true ↔ _
  simp only [Bool.or_eq_true, beq_iff_eq, Bool.or_false, decide_eq_true_eq]
  constructor
  · rintro (h | h | h)
    · exact .inl h.symm
    · exact .inr (.inl h.symm)
    · exact .inr (.inr h.symm)
  · rintro (h | h | h)
    · exact .inl h.symm
    · exact .inr (.inl h.symm)
    · exact .inr (.inr h.symm)
theorem inV2 (z a b : Str) : inV (.str z) [.str a, .str b] = decide (z = a ∨ z = b) := by
  rw [Bool.eq_iff_iff]
  show ((a == z) || ((b == z) || false)) = true ↔ _
  simp only [Bool.or_eq_true, beq_iff_eq, Bool.or_false, decide_eq_true_eq]
  constructor
  · rintro (h | h)
    · exact .inl h.symm
    · exact .inr h.symm
  · rintro (h | h)
    · exact .inl h.symm
    · exact .inr h.symm
/-- x in (a, b, ..), texts -/
theorem r_inT {H : Hp} {x : Str} {p : Addr} {xs : List V} {Q : VK} (h : SqT K H p xs) (f : xs.all flatV = true) (q : Q (.bl (inV (.str x) xs)) H) : rIn K false (.str x) (.ref p) H Q := ⟨p, xs, rfl, .inr h, rfl, f, q⟩
def tot (ps : List Pat) : Nat := (ps.map siz).sum
theorem tot_snoc (ps : List Pat) (p : Pat) : tot (ps ++ [p]) = tot ps + siz p := by
  unfold tot
  simp
theorem tot_nil : tot [] = 0 := rfl
theorem len_tot : ∀ ps : List Pat, ps.length ≤ tot ps
  | [] => Nat.le_refl _
  | p :: ps => by
    have h := len_tot ps
    have := siz_pos p
    show ps.length + 1 ≤ (siz p :: ps.map siz).sum
    rw [List.sum_cons]
    unfold tot at h
    omega
/-- one on the pile: the pattern, and whether it may take nothing -/
def Ent (K : PySem.W.Frag) (H : Hp) (p : Pat) (v : V) : Prop := ∃ t x, v = .ref t ∧ SqT K H t [x, .bl (nul p)] ∧ PAt K H p x
theorem Ent.mono {H H' : Hp} (e : TS K H H') {p : Pat} {v : V} : Ent K H p v → Ent K H' p v
  | ⟨t, x, h, q, u⟩ => ⟨t, x, h, e _ _ q, u.mono e⟩
theorem Ent.mk {H : Hp} {p : Pat} {t : Addr} {x : V} {b : Bool} (n : H t = none) (u : PAt K H p x) (e : nul p = b) : Ent K (upd H t (.tup [x, .bl b])) p (.ref t) := by
  subst e
  exact ⟨t, x, rfl, SqT.of upd_same, u.mono (TS.new n)⟩
end

/-! ### depths, data -/
def dep : Pat → Nat
  | .row p q => 1 + max (dep p) (dep q)
  | .or p q => 1 + max (dep p) (dep q)
  | .more p => 1 + dep p
  | .less p => 1 + dep p
  | .group _ p => 1 + dep p
  | _ => 1
theorem dep_pos (p : Pat) : 0 < dep p := by cases p <;> simp only [dep] <;> omega
def pd : Pat → PyData
  | .sign c => .tuple [.str "sign", .str ⟨#[c]⟩]
  | .any => .tuple [.str "any"]
  | .none => .tuple [.str "none"]
  | .row p q => .tuple [.str "row", pd p, pd q]
  | .or p q => .tuple [.str "or", pd p, pd q]
  | .more p => .tuple [.str "more", pd p]
  | .less p => .tuple [.str "less", pd p]
  | .group n p => .tuple [.str "group", .int n, pd p]
section
variable {K : PySem.W.Frag} {H : Hp}
theorem PAt.dp : ∀ {p : Pat} {v : V}, PAt K H p v → Dp K H v (pd p)
  | .sign _, _, ⟨_, h, _, t⟩ => by rw [h]; exact .tup t (.cons (.str _) (.cons (.str _) .nil))
  | .any, _, ⟨_, h, t⟩ => by rw [h]; exact .tup t (.cons (.str _) .nil)
  | .none, _, ⟨_, h, t⟩ => by rw [h]; exact .tup t (.cons (.str _) .nil)
  | .row _ _, _, ⟨_, _, _, h, t, u, w⟩ => by rw [h]; exact .tup t (.cons (.str _) (.cons (PAt.dp u) (.cons (PAt.dp w) .nil)))
  | .or _ _, _, ⟨_, _, _, h, t, u, w⟩ => by rw [h]; exact .tup t (.cons (.str _) (.cons (PAt.dp u) (.cons (PAt.dp w) .nil)))
  | .more _, _, ⟨_, _, h, t, u⟩ => by rw [h]; exact .tup t (.cons (.str _) (.cons (PAt.dp u) .nil))
  | .less _, _, ⟨_, _, h, t, u⟩ => by rw [h]; exact .tup t (.cons (.str _) (.cons (PAt.dp u) .nil))
  | .group _ _, _, ⟨_, _, h, _, t, u⟩ => by rw [h]; exact .tup t (.cons (.str _) (.cons (.int _) (.cons (PAt.dp u) .nil)))
theorem PAts.dp : ∀ {L : List Pat} {vs : List V}, PAts K H L vs → DpAll K H vs (L.map pd)
  | _, _, .nil => .nil
  | _, _, .cons h t => .cons h.dp (PAts.dp t)
theorem lay_cons {x : PyData} {xs : List PyData} (h : x.canLay0 = true) (t : PyData.canLayAll0 xs = true) : PyData.canLayAll0 (x :: xs) = true := by
  rw [PyData.canLayAll0, h, t]
  rfl
theorem lay_nil : PyData.canLayAll0 [] = true := by rw [PyData.canLayAll0]
theorem lay_tup {xs : List PyData} (h : PyData.canLayAll0 xs = true) : (PyData.tuple xs).canLay0 = true := by
  rw [PyData.canLay0]
  exact h
theorem lay_list {xs : List PyData} (h : PyData.canLayAll0 xs = true) : (PyData.list xs).canLay0 = true := by
  rw [PyData.canLay0]
  exact h
theorem lay_str {x : Str} (h : PyData.strOk x = true) : (PyData.str x).canLay0 = true := by
  rw [PyData.canLay0]
  exact h
theorem lay_int (i : Int) : (PyData.int i).canLay0 = true := by rw [PyData.canLay0]
theorem ok_chr {c : Nat} (h : c < 0x110000) : PyData.strOk ⟨#[c]⟩ = true := by
  unfold PyData.strOk
  simp [h]
theorem PAt.lay : ∀ {p : Pat} {v : V}, PAt K H p v → (pd p).canLay0 = true
  | .sign _, _, ⟨_, _, c, _⟩ => lay_tup (lay_cons (lay_str (by decide +kernel)) (lay_cons (lay_str (ok_chr c)) lay_nil))
  | .any, _, _ => lay_tup (lay_cons (lay_str (by decide +kernel)) lay_nil)
  | .none, _, _ => lay_tup (lay_cons (lay_str (by decide +kernel)) lay_nil)
  | .row _ _, _, ⟨_, _, _, _, _, u, w⟩ => lay_tup (lay_cons (lay_str (by decide +kernel)) (lay_cons (PAt.lay u) (lay_cons (PAt.lay w) lay_nil)))
  | .or _ _, _, ⟨_, _, _, _, _, u, w⟩ => lay_tup (lay_cons (lay_str (by decide +kernel)) (lay_cons (PAt.lay u) (lay_cons (PAt.lay w) lay_nil)))
  | .more _, _, ⟨_, _, _, _, u⟩ => lay_tup (lay_cons (lay_str (by decide +kernel)) (lay_cons (PAt.lay u) lay_nil))
  | .less _, _, ⟨_, _, _, _, u⟩ => lay_tup (lay_cons (lay_str (by decide +kernel)) (lay_cons (PAt.lay u) lay_nil))
  | .group _ _, _, ⟨_, _, _, _, _, u⟩ => lay_tup (lay_cons (lay_str (by decide +kernel)) (lay_cons (lay_int _) (lay_cons (PAt.lay u) lay_nil)))
theorem PAts.lay : ∀ {L : List Pat} {vs : List V}, PAts K H L vs → PyData.canLayAll0 (L.map pd) = true
  | _, _, .nil => lay_nil
  | _, _, .cons h t => lay_cons h.lay (PAts.lay t)
theorem pd_depth : ∀ p : Pat, (pd p).depth ≤ dep p
  | .sign _ => by simp [pd, dep, PyData.depth, PyData.depthAll]
  | .any => by simp [pd, dep, PyData.depth, PyData.depthAll]
  | .none => by simp [pd, dep, PyData.depth, PyData.depthAll]
  | .row p q => by
    have h1 := pd_depth p
    have h2 := pd_depth q
    simp only [pd, dep, PyData.depth, PyData.depthAll]
    omega
  | .or p q => by
    have h1 := pd_depth p
    have h2 := pd_depth q
    simp only [pd, dep, PyData.depth, PyData.depthAll]
    omega
  | .more p => by
    have h1 := pd_depth p
    simp only [pd, dep, PyData.depth, PyData.depthAll]
    omega
  | .less p => by
    have h1 := pd_depth p
    simp only [pd, dep, PyData.depth, PyData.depthAll]
    omega
  | .group n p => by
    have h1 := pd_depth p
    simp only [pd, dep, PyData.depth, PyData.depthAll]
    omega
theorem depthAll_app : ∀ xs ys : List PyData, PyData.depthAll (xs ++ ys) = max (PyData.depthAll xs) (PyData.depthAll ys)
  | [], ys => by simp [PyData.depthAll]
  | x :: xs, ys => by
    have h := depthAll_app xs ys
    simp only [List.cons_append, PyData.depthAll, h]
    omega
theorem subs_depth : ∀ p : Pat, PyData.depthAll ((subs p).map pd) ≤ dep p
  | .sign c => by
    have h := pd_depth (.sign c)
    simp only [subs, List.map, PyData.depthAll]
    omega
  | .any => by
    have h := pd_depth .any
    simp only [subs, List.map, PyData.depthAll]
    omega
  | .none => by
    have h := pd_depth .none
    simp only [subs, List.map, PyData.depthAll]
    omega
  | .row p q => by
    have h := pd_depth (.row p q)
    have h1 := subs_depth p
    have h2 := subs_depth q
    simp only [subs, List.map_cons, List.map_append, PyData.depthAll, depthAll_app]
    simp only [dep] at *
    omega
  | .or p q => by
    have h := pd_depth (.or p q)
    have h1 := subs_depth p
    have h2 := subs_depth q
    simp only [subs, List.map_cons, List.map_append, PyData.depthAll, depthAll_app]
    simp only [dep] at *
    omega
  | .more p => by
    have h := pd_depth (.more p)
    have h1 := subs_depth p
    simp only [subs, List.map_cons, PyData.depthAll]
    simp only [dep] at *
    omega
  | .less p => by
    have h := pd_depth (.less p)
    have h1 := subs_depth p
    simp only [subs, List.map_cons, PyData.depthAll]
    simp only [dep] at *
    omega
  | .group n p => by
    have h := pd_depth (.group n p)
    have h1 := subs_depth p
    simp only [subs, List.map_cons, PyData.depthAll]
    simp only [dep] at *
    omega
theorem shaped_of {d : PyData} (h : d.canLay0 = true) (z : d.depth ≤ 64) : SeqAt.shaped d = true := by
  unfold SeqAt.shaped
  rw [h, decide_eq_true z]
  rfl
theorem list_depth {xs : List PyData} {n : Nat} (h : PyData.depthAll xs ≤ n) : (PyData.list xs).depth ≤ 1 + n := by
  simp only [PyData.depth]
  omega
theorem ints_dp : ∀ ns : List Int, DpAll K H (ns.map V.int) (ns.map PyData.int)
  | [] => .nil
  | _ :: r => .cons (.int _) (ints_dp r)
theorem ints_lay : ∀ ns : List Int, PyData.canLayAll0 (ns.map PyData.int) = true
  | [] => lay_nil
  | _ :: r => lay_cons (lay_int _) (ints_lay r)
theorem ints_depth : ∀ ns : List Int, PyData.depthAll (ns.map PyData.int) = 0
  | [] => by simp [PyData.depthAll]
  | _ :: r => by simp [PyData.depthAll, PyData.depth, ints_depth r]
end
/-- the numbers of the groups among some parts -/
def nums (L : List Pat) : List Int := L.filterMap fun p => match p with
  | .group n _ => some n
  | _ => none
theorem siz_row (p q : Pat) : siz (.row p q) = 1 + siz p + siz q := by
  show (_ :: (subs p ++ subs q)).length = _
  rw [List.length_cons, List.length_append]
  unfold siz
  omega
theorem siz_or (p q : Pat) : siz (.or p q) = 1 + siz p + siz q := siz_row p q
theorem siz_more (p : Pat) : siz (.more p) = 1 + siz p := by
  show (_ :: subs p).length = _
  rw [List.length_cons]
  unfold siz
  omega
theorem siz_less (p : Pat) : siz (.less p) = 1 + siz p := siz_more p
theorem siz_group (n : Int) (p : Pat) : siz (.group n p) = 1 + siz p := siz_more p
/-! ### twins, empty rounds -/
theorem firstMet_full {ns : List Int} : ∀ {i : Nat}, i ≤ ns.length → (firstMet (fun i => ns.getD i 0) i).length = i → firstMet (fun i => ns.getD i 0) i = ns.take i ∧ (ns.take i).Nodup
  | 0, _, _ => ⟨rfl, by rw [List.take_zero]; exact List.nodup_nil⟩
  | i + 1, hi, h => by
    have hlt : i < ns.length := hi
    have hle := firstMet_length_le (fun i => ns.getD i 0) i
    have e1 : ns.getD i 0 = ns[i] := by
      rw [List.getD_eq_getElem?_getD, List.getElem?_eq_getElem hlt] <;> rfl
    have e2 : ns.take (i + 1) = ns.take i ++ [ns[i]] := by
      rw [List.take_add_one, List.getElem?_eq_getElem hlt] <;> rfl
    rw [firstMet_succ] at h ⊢
    unfold step_dedup at h ⊢
    by_cases c : (firstMet (fun i => ns.getD i 0) i).any (· == ns.getD i 0) = true
    · rw [if_pos c] at h
      omega
    · rw [if_neg c] at h ⊢
      rw [List.length_append, List.length_singleton] at h
      obtain ⟨q1, q2⟩ := firstMet_full (ns := ns) (i := i) (by omega) (by omega)
      rw [q1] at c ⊢
      rw [e1] at c ⊢
      rw [e2]
      refine ⟨rfl, ?_⟩
      rw [List.nodup_append]
      refine ⟨q2, by simp, fun a ha b hb => ?_⟩
      obtain rfl := List.mem_singleton.mp hb
      intro e
      exact c (List.any_eq_true.mpr ⟨a, ha, by rw [e]; exact beq_self_eq_true _⟩)
theorem twins_iff (ns : List Int) : ((firstMet (fun i => ns.getD i 0) ns.length).length : Int) < (ns.length : Int) ↔ ¬ ns.Nodup := by
  have hle := firstMet_length_le (fun i => ns.getD i 0) ns.length
  constructor
  · intro h hn
    rw [RZ.firstMet_nodup hn ns.length (Nat.le_refl _), List.take_length] at h
    omega
  · intro h
    by_cases e : (firstMet (fun i => ns.getD i 0) ns.length).length = ns.length
    · have := (firstMet_full (Nat.le_refl _) e).2
      rw [List.take_length] at this
      exact absurd this h
    · omega
/-- for each more and less: whether its p may take nothing -/
def erl (L : List Pat) : List Bool := L.filterMap fun x => match x with
  | .more q => some (nul q)
  | .less q => some (nul q)
  | _ => none
theorem next_part : ∀ (p : Pat) (R : List Pat) (i : Nat) (q : Pat), i < siz p → ((subs p ++ R)[i]? = some (.more q) ∨ (subs p ++ R)[i]? = some (.less q)) → (subs p ++ R)[i + 1]? = some q
  | .sign c, R, i, q, hi, h => by
    obtain rfl : i = 0 := by have : i < 1 := hi; omega
    rcases h with h | h <;> exact nomatch Option.some.inj h
  | .any, R, i, q, hi, h => by
    obtain rfl : i = 0 := by have : i < 1 := hi; omega
    rcases h with h | h <;> exact nomatch Option.some.inj h
  | .none, R, i, q, hi, h => by
    obtain rfl : i = 0 := by have : i < 1 := hi; omega
    rcases h with h | h <;> exact nomatch Option.some.inj h
  | .row p1 p2, R, i, q, hi, h => by
    rw [siz_row] at hi
    have e : subs (.row p1 p2) ++ R = .row p1 p2 :: (subs p1 ++ (subs p2 ++ R)) := by
      show (_ :: (subs p1 ++ subs p2)) ++ R = _
      rw [List.cons_append, List.append_assoc]
    rw [e] at h ⊢
    cases i with
    | zero => rcases h with h | h <;> exact nomatch Option.some.inj h
    | succ j =>
      rw [List.getElem?_cons_succ] at h ⊢
      by_cases hj : j < siz p1
      · exact next_part p1 _ j q hj h
      · have hl : (subs p1).length = siz p1 := rfl
        rw [List.getElem?_append_right (by omega)] at h ⊢
        have e2 : j + 1 - (subs p1).length = (j - (subs p1).length) + 1 := by omega
        rw [e2]
        exact next_part p2 R _ q (by omega) h
  | .or p1 p2, R, i, q, hi, h => by
    rw [siz_or] at hi
    have e : subs (.or p1 p2) ++ R = .or p1 p2 :: (subs p1 ++ (subs p2 ++ R)) := by
      show (_ :: (subs p1 ++ subs p2)) ++ R = _
      rw [List.cons_append, List.append_assoc]
    rw [e] at h ⊢
    cases i with
    | zero => rcases h with h | h <;> exact nomatch Option.some.inj h
    | succ j =>
      rw [List.getElem?_cons_succ] at h ⊢
      by_cases hj : j < siz p1
      · exact next_part p1 _ j q hj h
      · have hl : (subs p1).length = siz p1 := rfl
        rw [List.getElem?_append_right (by omega)] at h ⊢
        have e2 : j + 1 - (subs p1).length = (j - (subs p1).length) + 1 := by omega
        rw [e2]
        exact next_part p2 R _ q (by omega) h
  | .more p, R, i, q, hi, h => by
    rw [siz_more] at hi
    have e : subs (.more p) ++ R = .more p :: (subs p ++ R) := rfl
    rw [e] at h ⊢
    cases i with
    | zero =>
      rcases h with h | h
      · cases Option.some.inj h
        rw [subs_eq]
        rfl
      · exact nomatch Option.some.inj h
    | succ j =>
      rw [List.getElem?_cons_succ] at h ⊢
      exact next_part p R j q (by omega) h
  | .less p, R, i, q, hi, h => by
    rw [siz_less] at hi
    have e : subs (.less p) ++ R = .less p :: (subs p ++ R) := rfl
    rw [e] at h ⊢
    cases i with
    | zero =>
      rcases h with h | h
      · exact nomatch Option.some.inj h
      · cases Option.some.inj h
        rw [subs_eq]
        rfl
    | succ j =>
      rw [List.getElem?_cons_succ] at h ⊢
      exact next_part p R j q (by omega) h
  | .group n p, R, i, q, hi, h => by
    rw [siz_group] at hi
    have e : subs (.group n p) ++ R = .group n p :: (subs p ++ R) := rfl
    rw [e] at h ⊢
    cases i with
    | zero => rcases h with h | h <;> exact nomatch Option.some.inj h
    | succ j =>
      rw [List.getElem?_cons_succ] at h ⊢
      exact next_part p R j q (by omega) h
theorem next_part' {p q : Pat} {i : Nat} (h : (subs p)[i]? = some (.more q) ∨ (subs p)[i]? = some (.less q)) : (subs p)[i + 1]? = some q := by
  have hi : i < siz p := by
    rcases h with h | h
    · exact (List.getElem?_eq_some_iff.mp h).1
    · exact (List.getElem?_eq_some_iff.mp h).1
  have q' := next_part p [] i q hi
  rw [List.append_nil] at q'
  exact q' h
/-- a pattern that is not refused -/
def goodP (p : Pat) : Prop := (nums (subs p)).Nodup ∧ (erl (subs p)).any id = false
end Gm

set_option maxRecDepth 100000
set_option maxHeartbeats 4000000
namespace Gm
open PySem PySem.Spec PyProof.Rows L2
/-! ### match: cases (text, name ..) of a tuple, and _ -/
structure PM (X : Cx) (cases : List MatchCase) (t : V → L2.TS) : Prop where
  run : ∀ (pins : List (Addr × Obj)) (s : Shared) (σ : L2.St) (H : Hp) (D : L2.Ends) (x : V) (v : Value) (first : Bool), Inv X pins σ H s → RelV x v → t x D σ H → wpAny (model X.prog X.w) X.A (matchCases cases X.env v first) (SP X pins D) X.xe s
def tMatch (te : TE) (tm : V → L2.TS) : L2.TS := fun D σ H => te σ H fun x H1 => tm x D σ H1
/-- a case of n things: the text z, then names at the slots js -/
def tCase (K : PySem.W.Frag) (z : Str) (n : Nat) (tb : List V → L2.TS) (tr : V → L2.TS) : V → L2.TS := fun x D σ H =>
  ∃ p y ys, x = .ref p ∧ SqT K H p (.str y :: ys) ∧ ((y = z ∧ ys.length = n ∧ tb ys D σ H) ∨ ((y ≠ z ∨ ys.length ≠ n) ∧ tr x D σ H))
def set1 (i : Nat) (tb : L2.TS) : List V → L2.TS := fun ys D σ H => ∃ v, ys = [v] ∧ tb D (σ.set i (some v)) H
def set2 (i j : Nat) (tb : L2.TS) : List V → L2.TS := fun ys D σ H => ∃ v u, ys = [v, u] ∧ tb D ((σ.set i (some v)).set j (some u)) H
section
variable {X : Cx}
theorem ps_match {e : Expr} {cases : List MatchCase} {pos : Pos} {te : TE} {tm : V → L2.TS} (he : PE X e te) (hm : PM X cases tm) : PS X (.Match e cases pos) (tMatch te tm) := by
  refine ⟨fun pins s σ H D I h => ?_⟩
  exact wpAny_Match (thn (he.run pins s σ H _ I h) fun v s1 ⟨x, H1, I1, r1, q⟩ => hm.run pins s1 σ H1 D x v true I1 r1 q)
theorem pm_wild {body : List Stmt} {rest : List MatchCase} {pos : Pos} {tb : L2.TS} (hb : PSs X body tb) : PM X (⟨.MatchAs none none pos, none, body⟩ :: rest) (fun _ => tb) := by
  refine ⟨fun pins s σ H D x v first I r h => ?_⟩
  refine wpAny_matchCases_cons (wpAny_matchPattern_Capture ?_)
  exact wpAny_assignInOrder_none (hb.run pins s σ H D I h)
theorem fits63 {its : List Value} (h : its.length ≤ sizeLine) : ((its.toArray.size : Nat) : Int) < 2 ^ 63 := by
  rw [List.size_toArray]
  have := line63
  omega
/-- the literal against the tuple's first -/
theorem lit_eq {pins : List (Addr × Obj)} {s : Shared} {σ : L2.St} {H : Hp} {y z : Str} {u : Value} {k : Nat} {p1 p2 : Pos} {Q : Option (List (Str × Value)) → Shared → Prop} (I : Inv X pins σ H s) (r : RelV (.str y) u)
    (h1 : y = z → ∀ s', Inv X pins σ H s' → Q (some []) s') (h2 : y ≠ z → ∀ s', Inv X pins σ H s' → Q none s') :
    wpAny (model X.prog X.w) X.A (matchPattern (.MatchValue (.Constant (.str z) k p1) p2) X.env u) Q X.xe s := by
  refine wpAny_matchPattern_Value (thn ((pe_str (x := z) (j := k) (pos := p1)).run pins s σ H (fun x H' => x = .str z ∧ H' = H) I ⟨rfl, rfl⟩) fun v s1 ⟨x, H1, I1, rx, e1, e2⟩ => ?_)
  subst e1
  subst e2
  refine thn (op_eq pins s1 σ H1 (.str y) (.str z) u v (fun w H' => w = .bl (decide (V.str y = V.str z)) ∧ H' = H1) I1 r rx ⟨rfl, rfl, rfl⟩) fun c s2 ⟨w, H2, I2, rw', e3, e4⟩ => ?_
  subst e3
  subst e4
  cases (show c = Value.bool (decide (V.str y = V.str z)) from rw')
  refine wpAny_truthy_bool ?_
  by_cases e : y = z
  · rw [decide_eq_true (by rw [e])]
    exact h1 e s2 I2
  · rw [decide_eq_false (fun q => e (V.str.inj q))]
    exact h2 e s2 I2
theorem pm_case1 {z a : Str} {k i : Nat} {p1 p2 p3 p4 : Pos} {body : List Stmt} {rest : List MatchCase} {tb : L2.TS} {tr : V → L2.TS} (hc : X.calm = true) (hN : X.N.Nodup) (hi : X.N[i]? = some a) (hl : X.env.scope.names.lookup a = some .local)
    (hb : PSs X body tb) (hr : PM X rest tr) : PM X (⟨.MatchSequence [.MatchValue (.Constant (.str z) k p1) p2, .MatchAs none (some a) p3] p4, none, body⟩ :: rest) (tCase X.K z 1 (set1 i tb) tr) := by
  refine ⟨fun pins s σ H D x v first I r h => ?_⟩
  obtain ⟨p, y, ys, rfl, hq, h⟩ := h
  obtain rfl : v = Value.ref p := r
  obtain ⟨its, rv, p', hz⟩ := I.tuple hq
  have hlen := rv.length
  have hz' : its.length ≤ sizeLine := by rw [← hlen]; exact hz
  by_cases hn : its.toArray.size = 2
  · refine wpAny_matchCases_cons (matchSeq_tuple_hit p' (fits63 hz') hn ?_)
    show wpAny _ _ (unpackItems (.ref p) 2 none) _ _ _
    rw [← hn]
    refine unpackItems_tuple (I.ok.hd hc) p' fun h' hx' => ?_
    have I2 : Inv X pins σ H { s with toks := s.toks + 1 + 1, heap := h' } := I.kept (h' := h') (t' := s.toks + 1 + 1) fun b o e => hx' b o (Nat.ne_of_lt (Heap.lt_size e)) e
    have hn' : ys.length = 1 := by
      rw [List.size_toArray, ← hlen, List.length_cons] at hn
      omega
    cases rv with
    | @cons _ u0 _ us r0 rs =>
      obtain ⟨v1, rfl⟩ : ∃ v1, ys = [v1] := List.length_eq_one_iff.mp hn'
      cases rs with
      | @cons _ u1 _ us' r1 rs' =>
        cases rs'
        refine wpAny_matchEach_cons (lit_eq I2 r0 (fun e s3 I3 => ?_) (fun e s3 I3 => ?_))
        · refine wpAny_matchEach_cons (wpAny_matchPattern_Capture (wpAny_matchEach_nil ?_))
          rcases h with ⟨_, _, v', e', hb'⟩ | ⟨hne, _⟩
          · cases e'
            refine wpAny_assignInOrder_more (wpAny_bindName (store_ok I3 hN hi (.inl hl) r1 (fun s4 I4 => ?_) (.inr hl)))
            exact wpAny_assignInOrder_none (hb.run pins s4 _ H D I4 hb')
          · rcases hne with h1 | h1
            · exact absurd e h1
            · exact absurd rfl h1
        · rcases h with ⟨e', _⟩ | ⟨_, ht⟩
          · exact absurd e' e
          · exact hr.run pins s3 σ H D (.ref p) (Value.ref p) false I3 rfl ht
  · refine wpAny_matchCases_cons (matchSeq_tuple_miss p' (fits63 hz') hn ?_)
    rcases h with ⟨_, hl', _⟩ | ⟨_, ht⟩
    · refine absurd ?_ hn
      rw [List.size_toArray, ← hlen, List.length_cons, hl']
    · exact hr.run pins _ σ H D (.ref p) (Value.ref p) false (I.tok _) rfl ht
theorem pm_case2 {z a b : Str} {k i j : Nat} {p1 p2 p3 p4 p5 : Pos} {body : List Stmt} {rest : List MatchCase} {tb : L2.TS} {tr : V → L2.TS} (hc : X.calm = true) (hN : X.N.Nodup) (hi : X.N[i]? = some a) (hl : X.env.scope.names.lookup a = some .local) (hj : X.N[j]? = some b) (hl2 : X.env.scope.names.lookup b = some .local)
    (hb : PSs X body tb) (hr : PM X rest tr) : PM X (⟨.MatchSequence [.MatchValue (.Constant (.str z) k p1) p2, .MatchAs none (some a) p3, .MatchAs none (some b) p5] p4, none, body⟩ :: rest) (tCase X.K z 2 (set2 i j tb) tr) := by
  refine ⟨fun pins s σ H D x v first I r h => ?_⟩
  obtain ⟨p, y, ys, rfl, hq, h⟩ := h
  obtain rfl : v = Value.ref p := r
  obtain ⟨its, rv, p', hz⟩ := I.tuple hq
  have hlen := rv.length
  have hz' : its.length ≤ sizeLine := by rw [← hlen]; exact hz
  by_cases hn : its.toArray.size = 3
  · refine wpAny_matchCases_cons (matchSeq_tuple_hit p' (fits63 hz') hn ?_)
    show wpAny _ _ (unpackItems (.ref p) 3 none) _ _ _
    rw [← hn]
    refine unpackItems_tuple (I.ok.hd hc) p' fun h' hx' => ?_
    have I2 : Inv X pins σ H { s with toks := s.toks + 1 + 1, heap := h' } := I.kept (h' := h') (t' := s.toks + 1 + 1) fun b o e => hx' b o (Nat.ne_of_lt (Heap.lt_size e)) e
    have hn' : ys.length = 2 := by
      rw [List.size_toArray, ← hlen, List.length_cons] at hn
      omega
    cases rv with
    | @cons _ u0 _ us r0 rs =>
      obtain ⟨v1, v2, rfl⟩ : ∃ v1 v2, ys = [v1, v2] := match ys, hn' with | [v1, v2], _ => ⟨v1, v2, rfl⟩
      cases rs with
      | @cons _ u1 _ us' r1 rs' =>
        cases rs' with
        | @cons _ u2 _ us2 r2 rs2 =>
          cases rs2
          refine wpAny_matchEach_cons (lit_eq I2 r0 (fun e s3 I3 => ?_) (fun e s3 I3 => ?_))
          · refine wpAny_matchEach_cons (wpAny_matchPattern_Capture (wpAny_matchEach_cons (wpAny_matchPattern_Capture (wpAny_matchEach_nil ?_))))
            rcases h with ⟨_, _, v', w', e', hb'⟩ | ⟨hne, _⟩
            · cases e'
              refine wpAny_assignInOrder_more (wpAny_bindName (store_ok I3 hN hi (.inl hl) r1 (fun s4 I4 => ?_) (.inr hl)))
              refine wpAny_assignInOrder_more (wpAny_bindName (store_ok I4 hN hj (.inl hl2) r2 (fun s5 I5 => ?_) (.inr hl2)))
              exact wpAny_assignInOrder_none (hb.run pins s5 _ H D I5 hb')
            · rcases hne with h1 | h1
              · exact absurd e h1
              · exact absurd rfl h1
          · rcases h with ⟨e', _⟩ | ⟨_, ht⟩
            · exact absurd e' e
            · exact hr.run pins s3 σ H D (.ref p) (Value.ref p) false I3 rfl ht
  · refine wpAny_matchCases_cons (matchSeq_tuple_miss p' (fits63 hz') hn ?_)
    rcases h with ⟨_, hl', _⟩ | ⟨_, ht⟩
    · refine absurd ?_ hn
      rw [List.size_toArray, ← hlen, List.length_cons, hl']
    · exact hr.run pins _ σ H D (.ref p) (Value.ref p) false (I.tok _) rfl ht
end
end Gm

set_option maxRecDepth 100000
set_option maxHeartbeats 4000000
namespace Gm
open PySem PySem.Spec PyProof.Rows L2
/-! ### states -/
inductive Th where
  | pat (p : Pat) | close (n : Int)
abbrev Sta := List Th × Nat
def tnm : Th → Str
  | .pat p => nm p
  | .close _ => "close"
def tdep : Th → Nat
  | .pat p => dep p
  | .close _ => 1
def tpd : Th → PyData
  | .pat p => pd p
  | .close n => .tuple [.str "close", .int n]
def spd (s : Sta) : PyData := .tuple [.tuple (s.1.map tpd), .int (s.2 : Int)]
/-- no deeper than n -/
def gd (n : Nat) (r : List Th) : Prop := ∀ t ∈ r, tdep t ≤ n
def unf : Th → List (List Th)
  | .pat (.row p q) => [[.pat p, .pat q]]
  | .pat (.or p q) => [[.pat p], [.pat q]]
  | .pat (.more p) => [[.pat p, .pat (.more p)], []]
  | .pat (.less p) => [[], [.pat p, .pat (.less p)]]
  | .pat (.group n p) => [[.pat p, .close n]]
  | _ => [[]]
def step (z : List Nat) : Sta → List Sta
  | ([], _) => []
  | (.pat (.sign c) :: r, k) => if z[k]? = some c then [(r, k + 1)] else []
  | (.pat .any :: r, k) => if k < z.length then [(r, k + 1)] else []
  | (t :: r, k) => (unf t).map fun a => (a ++ r, k)
theorem unf_gd {n : Nat} {t : Th} (h : tdep t ≤ n) : ∀ a ∈ unf t, gd n a ∧ a.length ≤ 2 := by
  intro a ha
  have one : ∀ {m : Nat}, 1 + m ≤ n → 1 ≤ n := fun h => by omega
  cases t with
  | close m =>
    obtain rfl := List.mem_singleton.mp ha
    exact ⟨fun t ht => absurd ht List.not_mem_nil, Nat.zero_le _⟩
  | pat p =>
    cases p with
    | row p q =>
      obtain rfl := List.mem_singleton.mp ha
      have h' : 1 + max (dep p) (dep q) ≤ n := h
      refine ⟨fun t ht => ?_, by show 2 ≤ 2; decide⟩
      rcases List.mem_cons.mp ht with rfl | ht
      · show dep p ≤ n
        omega
      · obtain rfl := List.mem_singleton.mp ht
        show dep q ≤ n
        omega
    | or p q =>
      have h' : 1 + max (dep p) (dep q) ≤ n := h
      rcases List.mem_cons.mp ha with rfl | ha
      · refine ⟨fun t ht => ?_, by show 1 ≤ 2; decide⟩
        obtain rfl := List.mem_singleton.mp ht
        show dep p ≤ n
        omega
      · obtain rfl := List.mem_singleton.mp ha
        refine ⟨fun t ht => ?_, by show 1 ≤ 2; decide⟩
        obtain rfl := List.mem_singleton.mp ht
        show dep q ≤ n
        omega
    | more p =>
      have h' : 1 + dep p ≤ n := h
      rcases List.mem_cons.mp ha with rfl | ha
      · refine ⟨fun t ht => ?_, by show 2 ≤ 2; decide⟩
        rcases List.mem_cons.mp ht with rfl | ht
        · show dep p ≤ n
          omega
        · obtain rfl := List.mem_singleton.mp ht
          exact h
      · obtain rfl := List.mem_singleton.mp ha
        exact ⟨fun t ht => absurd ht List.not_mem_nil, Nat.zero_le _⟩
    | less p =>
      have h' : 1 + dep p ≤ n := h
      rcases List.mem_cons.mp ha with rfl | ha
      · exact ⟨fun t ht => absurd ht List.not_mem_nil, Nat.zero_le _⟩
      · obtain rfl := List.mem_singleton.mp ha
        refine ⟨fun t ht => ?_, by show 2 ≤ 2; decide⟩
        rcases List.mem_cons.mp ht with rfl | ht
        · show dep p ≤ n
          omega
        · obtain rfl := List.mem_singleton.mp ht
          exact h
    | group m p =>
      have h' : 1 + dep p ≤ n := h
      obtain rfl := List.mem_singleton.mp ha
      refine ⟨fun t ht => ?_, by show 2 ≤ 2; decide⟩
      rcases List.mem_cons.mp ht with rfl | ht
      · show dep p ≤ n
        omega
      · obtain rfl := List.mem_singleton.mp ht
        show 1 ≤ n
        omega
    | _ =>
      obtain rfl := List.mem_singleton.mp ha
      exact ⟨fun t ht => absurd ht List.not_mem_nil, Nat.zero_le _⟩
/-- a step keeps within the text, within the depth, and adds no more than one thing -/
theorem step_map {z : List Nat} {n m : Nat} {t : Th} {r : List Th} {k : Nat} (hg : gd n (t :: r)) (hm : (t :: r).length ≤ m) (hk : k ≤ z.length) : ∀ s ∈ (unf t).map (fun a => ((a ++ r, k) : Sta)), gd n s.1 ∧ s.1.length ≤ m + 1 ∧ s.2 ≤ z.length := by
  intro s hs
  obtain ⟨a, ha, rfl⟩ := List.mem_map.mp hs
  obtain ⟨g1, g2⟩ := unf_gd (hg t List.mem_cons_self) a ha
  refine ⟨fun u hu => ?_, ?_, hk⟩
  · rcases List.mem_append.mp hu with hu | hu
    · exact g1 u hu
    · exact hg u (List.mem_cons_of_mem _ hu)
  · show (a ++ r).length ≤ m + 1
    rw [List.length_append]
    rw [List.length_cons] at hm
    omega
theorem step_gd {z : List Nat} {n m : Nat} : ∀ {s : Sta}, gd n s.1 → s.1.length ≤ m → s.2 ≤ z.length → ∀ s' ∈ step z s, gd n s'.1 ∧ s'.1.length ≤ m + 1 ∧ s'.2 ≤ z.length
  | ([], _), _, _, _, s', h => absurd h List.not_mem_nil
  | (.pat (.sign c) :: r, k), hg, hm, hk, s', h => by
    have h : s' ∈ (if z[k]? = some c then [(r, k + 1)] else [] : List Sta) := h
    split at h
    · rename_i hc
      obtain rfl := List.mem_singleton.mp h
      refine ⟨fun u hu => hg u (List.mem_cons_of_mem _ hu), ?_, ?_⟩
      · rw [List.length_cons] at hm
        show r.length ≤ _
        omega
      · exact (List.getElem?_eq_some_iff.mp hc).1
    · exact absurd h List.not_mem_nil
  | (.pat .any :: r, k), hg, hm, hk, s', h => by
    have h : s' ∈ (if k < z.length then [(r, k + 1)] else [] : List Sta) := h
    split at h
    · rename_i hc
      obtain rfl := List.mem_singleton.mp h
      refine ⟨fun u hu => hg u (List.mem_cons_of_mem _ hu), ?_, hc⟩
      rw [List.length_cons] at hm
      show r.length ≤ _
      omega
    · exact absurd h List.not_mem_nil
  | (.pat .none :: r, k), hg, hm, hk, s', h => step_map hg hm hk s' h
  | (.pat (.row _ _) :: r, k), hg, hm, hk, s', h => step_map hg hm hk s' h
  | (.pat (.or _ _) :: r, k), hg, hm, hk, s', h => step_map hg hm hk s' h
  | (.pat (.more _) :: r, k), hg, hm, hk, s', h => step_map hg hm hk s' h
  | (.pat (.less _) :: r, k), hg, hm, hk, s', h => step_map hg hm hk s' h
  | (.pat (.group _ _) :: r, k), hg, hm, hk, s', h => step_map hg hm hk s' h
  | (.close _ :: r, k), hg, hm, hk, s', h => step_map hg hm hk s' h

section
variable {K : PySem.W.Frag}
def TAt (K : PySem.W.Frag) (H : Hp) : Th → V → Prop
  | .pat p, v => PAt K H p v
  | .close n, v => ∃ a, v = .ref a ∧ SqT K H a [.str "close", .int n]
theorem TAt.mono {H H' : Hp} (e : TS K H H') : ∀ {t : Th} {v : V}, TAt K H t v → TAt K H' t v
  | .pat _, _, h => PAt.mono e h
  | .close _, _, ⟨a, h, t⟩ => ⟨a, h, e _ _ t⟩
def TAts (K : PySem.W.Frag) (H : Hp) : List Th → List V → Prop := Paired (TAt K H)
theorem TAts.mono {H H' : Hp} (e : TS K H H') {L : List Th} {vs : List V} (h : TAts K H L vs) : TAts K H' L vs := Paired.mapP h fun _ _ z => z.mono e
theorem TAt.node {H : Hp} {t : Th} {v : V} (h : TAt K H t v) : ∃ a ws, v = .ref a ∧ SqT K H a (.str (tnm t) :: ws) := by
  cases t with
  | pat p =>
    obtain ⟨a, ws, e, q, _⟩ := PAt.node h
    exact ⟨a, _, e, q⟩
  | close n =>
    obtain ⟨a, e, q⟩ := h
    exact ⟨a, _, e, q⟩
/-- a tuple of things -/
def RAt (K : PySem.W.Frag) (H : Hp) (r : List Th) (v : V) : Prop := ∃ b vs, v = .ref b ∧ SqT K H b vs ∧ TAts K H r vs
theorem RAt.mono {H H' : Hp} (e : TS K H H') {r : List Th} {v : V} : RAt K H r v → RAt K H' r v
  | ⟨b, vs, h, q, t⟩ => ⟨b, vs, h, e _ _ q, t.mono e⟩
def SAt (K : PySem.W.Frag) (H : Hp) (s : Sta) (v : V) : Prop := ∃ a x, v = .ref a ∧ SqT K H a [x, .int (s.2 : Int)] ∧ RAt K H s.1 x
theorem SAt.mono {H H' : Hp} (e : TS K H H') {s : Sta} {v : V} : SAt K H s v → SAt K H' s v
  | ⟨a, x, h, q, t⟩ => ⟨a, x, h, e _ _ q, t.mono e⟩
def SAts (K : PySem.W.Frag) (H : Hp) : List Sta → List V → Prop := Paired (SAt K H)
theorem SAts.mono {H H' : Hp} (e : TS K H H') {L : List Sta} {vs : List V} (h : SAts K H L vs) : SAts K H' L vs := Paired.mapP h fun _ _ z => z.mono e

/-! ### as data -/
variable {H : Hp}
theorem TAt.dp : ∀ {t : Th} {v : V}, TAt K H t v → Dp K H v (tpd t)
  | .pat _, _, h => PAt.dp h
  | .close _, _, ⟨_, h, q⟩ => by rw [h]; exact .tup q (.cons (.str _) (.cons (.int _) .nil))
theorem TAts.dp : ∀ {L : List Th} {vs : List V}, TAts K H L vs → DpAll K H vs (L.map tpd)
  | _, _, .nil => .nil
  | _, _, .cons h t => .cons h.dp (TAts.dp t)
theorem TAt.lay : ∀ {t : Th} {v : V}, TAt K H t v → (tpd t).canLay0 = true
  | .pat _, _, h => PAt.lay h
  | .close _, _, _ => lay_tup (lay_cons (lay_str (by decide +kernel)) (lay_cons (lay_int _) lay_nil))
theorem TAts.lay : ∀ {L : List Th} {vs : List V}, TAts K H L vs → PyData.canLayAll0 (L.map tpd) = true
  | _, _, .nil => lay_nil
  | _, _, .cons h t => lay_cons h.lay (TAts.lay t)
theorem tpd_depth (t : Th) : (tpd t).depth ≤ tdep t := by
  cases t with
  | pat p => exact pd_depth p
  | close n => simp [tpd, tdep, PyData.depth, PyData.depthAll]
theorem tpds_depth {n : Nat} : ∀ {L : List Th}, gd n L → PyData.depthAll (L.map tpd) ≤ n
  | [], _ => by simp [PyData.depthAll]
  | t :: L, h => by
    have h1 := Nat.le_trans (tpd_depth t) (h t List.mem_cons_self)
    have h2 := tpds_depth (L := L) fun u hu => h u (List.mem_cons_of_mem _ hu)
    simp only [List.map_cons, PyData.depthAll]
    omega
theorem RAt.dp {r : List Th} {v : V} (h : RAt K H r v) : Dp K H v (.tuple (r.map tpd)) := by
  obtain ⟨b, vs, rfl, q, t⟩ := h
  exact .tup q t.dp
theorem SAt.dp {s : Sta} {v : V} (h : SAt K H s v) : Dp K H v (spd s) := by
  obtain ⟨a, x, rfl, q, t⟩ := h
  exact .tup q (.cons t.dp (.cons (.int _) .nil))
theorem SAt.lay {s : Sta} {v : V} (h : SAt K H s v) : (spd s).canLay0 = true := by
  obtain ⟨a, x, rfl, q, ⟨b, vs, rfl, q2, t⟩⟩ := h
  exact lay_tup (lay_cons (lay_tup t.lay) (lay_cons (lay_int _) lay_nil))
theorem spd_depth {n : Nat} {s : Sta} (h : gd n s.1) : (spd s).depth ≤ 2 + n := by
  have h1 := tpds_depth h
  simp only [spd, PyData.depth, PyData.depthAll]
  omega
theorem SAts.dp : ∀ {L : List Sta} {vs : List V}, SAts K H L vs → DpAll K H vs (L.map spd)
  | _, _, .nil => .nil
  | _, _, .cons h t => .cons h.dp (SAts.dp t)
theorem SAts.lay : ∀ {L : List Sta} {vs : List V}, SAts K H L vs → PyData.canLayAll0 (L.map spd) = true
  | _, _, .nil => lay_nil
  | _, _, .cons h t => lay_cons h.lay (SAts.lay t)
theorem spds_depth {n : Nat} : ∀ {L : List Sta}, (∀ s ∈ L, gd n s.1) → PyData.depthAll (L.map spd) ≤ 2 + n
  | [], _ => by simp [PyData.depthAll]
  | s :: L, h => by
    have h1 := spd_depth (h s List.mem_cons_self)
    have h2 := spds_depth (L := L) fun u hu => h u (List.mem_cons_of_mem _ hu)
    simp only [List.map_cons, PyData.depthAll]
    omega
/-- the end of the text -/
def isEnd (z : Str) (s : Sta) : Bool := s.1.isEmpty && decide ((s.2 : Int) = (z.length : Int))
theorem eqv_end (s : Sta) (n : Int) : PyData.eqv (spd s) (.tuple [.tuple [], .int n]) = (s.1.isEmpty && decide ((s.2 : Int) = n)) := by
  obtain ⟨r, k⟩ := s
  cases r with
  | nil =>
    simp [spd, PyData.eqv, PyData.eqvAll]
    rw [Bool.eq_iff_iff]
    simp
  | cons t r => simp [spd, PyData.eqv, PyData.eqvAll]
/-! ### t + u, t[1:], s[k:k + 1] -/
theorem r_catA {a b : Addr} {xs ys : List V} {Q : VK} (ha : SqT K H a xs) (hb : SqT K H b ys) (hz : xs.length + ys.length ≤ sizeLine) (q : ∀ c H', Same H H' → SqT K H' c (xs ++ ys) → Q (.ref c) H') : rCatA K (.ref a) (.ref b) H Q := by
  refine ⟨a, b, xs, ys, rfl, rfl, ha, hb, hz, fun e => q b H (Same.refl _) ?_, fun _ e => q a H (Same.refl _) ?_, fun _ _ p np => q p _ (same_new np) (SqT.of upd_same)⟩
  · rw [e, List.nil_append]
    exact hb
  · rw [e, List.append_nil]
    exact ha
theorem cut_tail (v : V) (vs : List V) : cutV (v :: vs) (some 1) none = vs := by
  unfold cutV
  rw [show HT.sIx (v :: vs).length 0 (some 1) = min 1 (v :: vs).length from HT.sIx_nat _ 0 1, HT.sIx_none, List.length_cons]
  rw [show min 1 (vs.length + 1) = 1 by omega]
  show List.take (vs.length + 1 - 1) vs = vs
  rw [Nat.add_sub_cancel]
  exact List.take_length
theorem not_whole (v : V) (vs : List V) : ¬ (HT.sIx (v :: vs).length 0 (some 1) = 0 ∧ HT.sIx (v :: vs).length (v :: vs).length none = (v :: vs).length) := fun ⟨h, _⟩ => by
  rw [show HT.sIx (v :: vs).length 0 (some 1) = min 1 (v :: vs).length from HT.sIx_nat _ 0 1, List.length_cons] at h
  omega
theorem cut_one (z : Str) (k : Nat) : cutS z (some (k : Int)) (some ((k : Int) + 1)) = ⟨((z.cps.toList[k]?).toList).toArray⟩ := by
  have e1 : ((k : Int) + 1) = ((k + 1 : Nat) : Int) := by omega
  have el : z.cps.toList.length = z.length := by simp [Str.length]
  unfold cutS
  rw [e1, HT.sIx_nat, HT.sIx_nat]
  congr 2
  by_cases h : k < z.length
  · have h' : k < z.cps.toList.length := by omega
    rw [show min k z.length = k by omega, show min (k + 1) z.length - k = 1 by omega, List.getElem?_eq_getElem h', List.drop_eq_getElem_cons h']
    rfl
  · rw [show min (k + 1) z.length - min k z.length = 0 by omega, List.take_zero, List.getElem?_eq_none (by omega)]
    rfl
end
end Gm

set_option maxRecDepth 100000
set_option maxHeartbeats 4000000
/-! the search: rests, weights, ways, dead ends -/
namespace Gm
open PySem PySem.Spec PyProof.Rows L2
/-! ### rests -/
def adv : List Th → List (List Th)
  | [] => []
  | .pat (.sign _) :: r => [r]
  | .pat .any :: r => [r]
  | t :: r => (unf t).map fun a => a ++ r
def conts : Pat → List Th → List (List Th)
  | .row p q, k => (.pat (.row p q) :: k) :: (conts p (.pat q :: k) ++ conts q k)
  | .or p q, k => (.pat (.or p q) :: k) :: (conts p k ++ conts q k)
  | .more p, k => (.pat (.more p) :: k) :: conts p (.pat (.more p) :: k)
  | .less p, k => (.pat (.less p) :: k) :: conts p (.pat (.less p) :: k)
  | .group n p, k => (.pat (.group n p) :: k) :: (conts p (.close n :: k) ++ [.close n :: k])
  | p, k => [.pat p :: k]
theorem conts_hd (p : Pat) (k : List Th) : (.pat p :: k) ∈ conts p k := by
  cases p <;> simp [conts]
theorem conts_len : ∀ (p : Pat) (k : List Th), (conts p k).length ≤ 2 * siz p
  | .sign _, k => by show 1 ≤ 2; decide
  | .any, k => by show 1 ≤ 2; decide
  | .none, k => by show 1 ≤ 2; decide
  | .row p q, k => by
    have h1 := conts_len p (.pat q :: k)
    have h2 := conts_len q k
    rw [siz_row]
    simp only [conts, List.length_cons, List.length_append]
    omega
  | .or p q, k => by
    have h1 := conts_len p k
    have h2 := conts_len q k
    rw [siz_or]
    simp only [conts, List.length_cons, List.length_append]
    omega
  | .more p, k => by
    have h1 := conts_len p (.pat (.more p) :: k)
    rw [siz_more]
    simp only [conts, List.length_cons]
    omega
  | .less p, k => by
    have h1 := conts_len p (.pat (.less p) :: k)
    rw [siz_less]
    simp only [conts, List.length_cons]
    omega
  | .group n p, k => by
    have h1 := conts_len p (.close n :: k)
    rw [siz_group]
    simp only [conts, List.length_cons, List.length_append, List.length_nil]
    omega
theorem conts_adv : ∀ (p : Pat) (k r : List Th), r ∈ conts p k → ∀ r' ∈ adv r, r' ∈ conts p k ∨ r' = k
  | .sign _, k, r, h, r', h' => by
    obtain rfl := List.mem_singleton.mp h
    exact .inr (List.mem_singleton.mp h')
  | .any, k, r, h, r', h' => by
    obtain rfl := List.mem_singleton.mp h
    exact .inr (List.mem_singleton.mp h')
  | .none, k, r, h, r', h' => by
    obtain rfl := List.mem_singleton.mp h
    exact .inr (List.mem_singleton.mp h')
  | .row p q, k, r, h, r', h' => by
    simp only [conts, List.mem_cons, List.mem_append] at h ⊢
    rcases h with rfl | h | h
    · obtain rfl := List.mem_singleton.mp h'
      exact .inl (.inr (.inl (conts_hd p _)))
    · rcases conts_adv p _ r h r' h' with z | rfl
      · exact .inl (.inr (.inl z))
      · exact .inl (.inr (.inr (conts_hd q k)))
    · rcases conts_adv q _ r h r' h' with z | rfl
      · exact .inl (.inr (.inr z))
      · exact .inr rfl
  | .or p q, k, r, h, r', h' => by
    simp only [conts, List.mem_cons, List.mem_append] at h ⊢
    rcases h with rfl | h | h
    · have h2 : r' ∈ [[.pat p] ++ k, [.pat q] ++ k] := h'
      rcases List.mem_cons.mp h2 with rfl | h2
      · exact .inl (.inr (.inl (conts_hd p _)))
      · obtain rfl := List.mem_singleton.mp h2
        exact .inl (.inr (.inr (conts_hd q _)))
    · rcases conts_adv p _ r h r' h' with z | rfl
      · exact .inl (.inr (.inl z))
      · exact .inr rfl
    · rcases conts_adv q _ r h r' h' with z | rfl
      · exact .inl (.inr (.inr z))
      · exact .inr rfl
  | .more p, k, r, h, r', h' => by
    simp only [conts, List.mem_cons] at h ⊢
    rcases h with rfl | h
    · have h2 : r' ∈ [[.pat p, .pat (.more p)] ++ k, [] ++ k] := h'
      rcases List.mem_cons.mp h2 with rfl | h2
      · exact .inl (.inr (conts_hd p _))
      · obtain rfl := List.mem_singleton.mp h2
        exact .inr rfl
    · rcases conts_adv p _ r h r' h' with z | rfl
      · exact .inl (.inr z)
      · exact .inl (.inl rfl)
  | .less p, k, r, h, r', h' => by
    simp only [conts, List.mem_cons] at h ⊢
    rcases h with rfl | h
    · have h2 : r' ∈ [[] ++ k, [.pat p, .pat (.less p)] ++ k] := h'
      rcases List.mem_cons.mp h2 with rfl | h2
      · exact .inr rfl
      · obtain rfl := List.mem_singleton.mp h2
        exact .inl (.inr (conts_hd p _))
    · rcases conts_adv p _ r h r' h' with z | rfl
      · exact .inl (.inr z)
      · exact .inl (.inl rfl)
  | .group n p, k, r, h, r', h' => by
    simp only [conts, List.mem_cons, List.mem_append, List.not_mem_nil, or_false] at h ⊢
    rcases h with rfl | h | rfl
    · obtain rfl := List.mem_singleton.mp h'
      exact .inl (.inr (.inl (conts_hd p _)))
    · rcases conts_adv p _ r h r' h' with z | rfl
      · exact .inl (.inr (.inl z))
      · exact .inl (.inr (.inr rfl))
    · have h2 : r' ∈ [[] ++ k] := h'
      exact .inr (List.mem_singleton.mp h2)
/-- no empty round -/
def nr : Pat → Bool
  | .row p q => nr p && nr q
  | .or p q => nr p && nr q
  | .more p => !nul p && nr p
  | .less p => !nul p && nr p
  | .group _ p => nr p
  | _ => true
theorem erl_append (A B : List Pat) : erl (A ++ B) = erl A ++ erl B := by
  unfold erl
  rw [List.filterMap_append]
theorem nr_iff : ∀ p : Pat, (erl (subs p)).any id = !nr p
  | .sign _ => rfl
  | .any => rfl
  | .none => rfl
  | .row p q => by
    have h1 := nr_iff p
    have h2 := nr_iff q
    show (erl (subs p ++ subs q)).any id = _
    rw [erl_append, List.any_append, h1, h2]
    simp [nr, Bool.not_and]
  | .or p q => by
    have h1 := nr_iff p
    have h2 := nr_iff q
    show (erl (subs p ++ subs q)).any id = _
    rw [erl_append, List.any_append, h1, h2]
    simp [nr, Bool.not_and]
  | .more p => by
    have h1 := nr_iff p
    show (nul p || (erl (subs p)).any id) = _
    rw [h1]
    simp [nr, Bool.not_and]
  | .less p => by
    have h1 := nr_iff p
    show (nul p || (erl (subs p)).any id) = _
    rw [h1]
    simp [nr, Bool.not_and]
  | .group n p => nr_iff p
theorem goodP.nr {p : Pat} (h : goodP p) : nr p = true := by
  have := nr_iff p
  rw [h.2] at this
  cases e : Gm.nr p
  · rw [e] at this
    cases this
  · rfl
def tnr : Th → Bool
  | .pat p => nr p
  | .close _ => true
/-- what holds of all rests of a pattern -/
structure ROk (d l : Nat) (r : List Th) : Prop where
  gd : gd d r
  len : r.length ≤ l
  nr : ∀ t ∈ r, tnr t = true
theorem ROk.cons {d l : Nat} {t : Th} {r : List Th} (h1 : tdep t ≤ d) (h2 : tnr t = true) (h : ROk d l r) : ROk d (l + 1) (t :: r) := ⟨fun u hu => by
  rcases List.mem_cons.mp hu with rfl | hu
  · exact h1
  · exact h.gd u hu, by rw [List.length_cons]; have := h.len; omega, fun u hu => by
  rcases List.mem_cons.mp hu with rfl | hu
  · exact h2
  · exact h.nr u hu⟩
theorem ROk.le {d l l' : Nat} {r : List Th} (h : ROk d l r) (e : l ≤ l') : ROk d l' r := ⟨h.gd, Nat.le_trans h.len e, h.nr⟩
theorem conts_ok : ∀ (p : Pat) (k : List Th) (d l : Nat), dep p ≤ d → nr p = true → ROk d l k → ∀ r ∈ conts p k, ROk d (l + dep p) r
  | .sign c, k, d, l, hd, hn, hk, r, h => by
    obtain rfl := List.mem_singleton.mp h
    exact hk.cons hd hn
  | .any, k, d, l, hd, hn, hk, r, h => by
    obtain rfl := List.mem_singleton.mp h
    exact hk.cons hd hn
  | .none, k, d, l, hd, hn, hk, r, h => by
    obtain rfl := List.mem_singleton.mp h
    exact hk.cons hd hn
  | .row p q, k, d, l, hd, hn, hk, r, h => by
    have hd' : 1 + max (dep p) (dep q) ≤ d := hd
    have hn' := Bool.and_eq_true_iff.mp hn
    have d1 : dep (.row p q) = 1 + max (dep p) (dep q) := rfl
    simp only [conts, List.mem_cons, List.mem_append] at h
    rcases h with rfl | h | h
    · exact (hk.cons (t := .pat (.row p q)) hd hn).le (by omega)
    · exact (conts_ok p _ d (l + 1) (by omega) hn'.1 (hk.cons (t := .pat q) (show dep q ≤ d by omega) hn'.2) r h).le (by omega)
    · exact (conts_ok q _ d l (by omega) hn'.2 hk r h).le (by omega)
  | .or p q, k, d, l, hd, hn, hk, r, h => by
    have hd' : 1 + max (dep p) (dep q) ≤ d := hd
    have hn' := Bool.and_eq_true_iff.mp hn
    have d1 : dep (.or p q) = 1 + max (dep p) (dep q) := rfl
    simp only [conts, List.mem_cons, List.mem_append] at h
    rcases h with rfl | h | h
    · exact (hk.cons (t := .pat (.or p q)) hd hn).le (by omega)
    · exact (conts_ok p _ d l (by omega) hn'.1 hk r h).le (by omega)
    · exact (conts_ok q _ d l (by omega) hn'.2 hk r h).le (by omega)
  | .more p, k, d, l, hd, hn, hk, r, h => by
    have hd' : 1 + dep p ≤ d := hd
    have hn' := Bool.and_eq_true_iff.mp hn
    have d1 : dep (.more p) = 1 + dep p := rfl
    simp only [conts, List.mem_cons] at h
    have hm := hk.cons (t := .pat (.more p)) hd hn
    rcases h with rfl | h
    · exact hm.le (by omega)
    · exact (conts_ok p _ d (l + 1) (by omega) hn'.2 hm r h).le (by omega)
  | .less p, k, d, l, hd, hn, hk, r, h => by
    have hd' : 1 + dep p ≤ d := hd
    have hn' := Bool.and_eq_true_iff.mp hn
    have d1 : dep (.less p) = 1 + dep p := rfl
    simp only [conts, List.mem_cons] at h
    have hm := hk.cons (t := .pat (.less p)) hd hn
    rcases h with rfl | h
    · exact hm.le (by omega)
    · exact (conts_ok p _ d (l + 1) (by omega) hn'.2 hm r h).le (by omega)
  | .group n p, k, d, l, hd, hn, hk, r, h => by
    have hd' : 1 + dep p ≤ d := hd
    have d1 : dep (.group n p) = 1 + dep p := rfl
    have p1 := dep_pos p
    simp only [conts, List.mem_cons, List.mem_append, List.not_mem_nil, or_false] at h
    have hc := hk.cons (t := .close n) (show 1 ≤ d by omega) rfl
    rcases h with rfl | h | rfl
    · exact (hk.cons (t := .pat (.group n p)) hd hn).le (by omega)
    · exact (conts_ok p _ d (l + 1) (by omega) hn hc r h).le (by omega)
    · exact hc.le (by omega)
/-- all rests of a pattern -/
def allr (p : Pat) : List (List Th) := conts p [] ++ [[]]
theorem allr_len (p : Pat) : (allr p).length ≤ 2 * siz p + 1 := by
  unfold allr
  rw [List.length_append]
  have := conts_len p []
  show _ + 1 ≤ _
  omega
theorem allr_adv {p : Pat} {r : List Th} (h : r ∈ allr p) : ∀ r' ∈ adv r, r' ∈ allr p := by
  intro r' h'
  rcases List.mem_append.mp h with h | h
  · rcases conts_adv p [] r h r' h' with z | z
    · exact List.mem_append_left _ z
    · rw [z]
      exact List.mem_append_right _ (List.mem_singleton.mpr rfl)
  · rw [List.mem_singleton.mp h] at h'
    exact absurd h' List.not_mem_nil
theorem allr_ok {p : Pat} (hn : nr p = true) : ∀ r ∈ allr p, ROk (dep p) (dep p) r := by
  intro r h
  have nilOk : ROk (dep p) 0 [] := ⟨fun t ht => absurd ht List.not_mem_nil, Nat.le_refl _, fun t ht => absurd ht List.not_mem_nil⟩
  rcases List.mem_append.mp h with h | h
  · exact (conts_ok p [] (dep p) 0 (Nat.le_refl _) hn nilOk r h).le (by omega)
  · rw [List.mem_singleton.mp h]
    exact nilOk.le (Nat.zero_le _)
theorem allr_first (p : Pat) : [.pat p] ∈ allr p := List.mem_append_left _ (conts_hd p [])
theorem step_two (z : List Nat) : ∀ s : Sta, (step z s).length ≤ 2
  | ([], _) => Nat.zero_le _
  | (.pat (.sign c) :: r, k) => by
    show (if z[k]? = some c then [(r, k + 1)] else [] : List Sta).length ≤ 2
    split <;> simp
  | (.pat .any :: r, k) => by
    show (if k < z.length then [(r, k + 1)] else [] : List Sta).length ≤ 2
    split <;> simp
  | (.pat .none :: r, k) => by show 1 ≤ 2; decide
  | (.pat (.row _ _) :: r, k) => by show 1 ≤ 2; decide
  | (.pat (.or _ _) :: r, k) => by show 2 ≤ 2; decide
  | (.pat (.more _) :: r, k) => by show 2 ≤ 2; decide
  | (.pat (.less _) :: r, k) => by show 2 ≤ 2; decide
  | (.pat (.group _ _) :: r, k) => by show 1 ≤ 2; decide
  | (.close _ :: r, k) => by show 1 ≤ 2; decide
/-- nothing, or just what the rests lead on to -/
theorem step_adv (z : List Nat) : ∀ s : Sta, step z s = [] ∨ ∃ k, step z s = (adv s.1).map fun r => (r, k)
  | ([], _) => .inl rfl
  | (.pat (.sign c) :: r, k) => by
    show (if z[k]? = some c then [(r, k + 1)] else [] : List Sta) = [] ∨ ∃ k', (if z[k]? = some c then [(r, k + 1)] else [] : List Sta) = [(r, k')]
    split
    · exact .inr ⟨_, rfl⟩
    · exact .inl rfl
  | (.pat .any :: r, k) => by
    show (if k < z.length then [(r, k + 1)] else [] : List Sta) = [] ∨ ∃ k', (if k < z.length then [(r, k + 1)] else [] : List Sta) = [(r, k')]
    split
    · exact .inr ⟨_, rfl⟩
    · exact .inl rfl
  | (.pat .none :: r, k) => .inr ⟨k, rfl⟩
  | (.pat (.row _ _) :: r, k) => .inr ⟨k, rfl⟩
  | (.pat (.or _ _) :: r, k) => .inr ⟨k, rfl⟩
  | (.pat (.more _) :: r, k) => .inr ⟨k, rfl⟩
  | (.pat (.less _) :: r, k) => .inr ⟨k, rfl⟩
  | (.pat (.group _ _) :: r, k) => .inr ⟨k, rfl⟩
  | (.close _ :: r, k) => .inr ⟨k, rfl⟩
/-! ### weights -/
def wtp : Pat → Nat
  | .row p q => 1 + wtp p + wtp q
  | .or p q => 1 + wtp p + wtp q
  | .more p => 1 + wtp p
  | .less p => 1 + wtp p
  | .group _ p => 2 + wtp p
  | _ => 1
def wtt : Th → Nat
  | .pat p => wtp p
  | .close _ => 1
def tnul : Th → Bool
  | .pat p => nul p
  | .close _ => true
def wr : List Th → Nat
  | [] => 0
  | t :: r => wtt t + if tnul t = true then wr r else 0
theorem unf_dec {t : Th} {r : List Th} (h : tnr t = true) (hs : ∀ c, t ≠ .pat (.sign c)) (ha : t ≠ .pat .any) : ∀ a ∈ unf t, wr (a ++ r) < wr (t :: r) := by
  intro a hm
  cases t with
  | close n =>
    obtain rfl := List.mem_singleton.mp hm
    simp [wr, wtt, tnul]
  | pat p =>
    cases p with
    | sign c => exact absurd rfl (hs c)
    | any => exact absurd rfl ha
    | none =>
      obtain rfl := List.mem_singleton.mp hm
      simp [wr, wtt, wtp, tnul, nul]
    | row p q =>
      obtain rfl := List.mem_singleton.mp hm
      simp only [List.cons_append, List.nil_append, wr, wtt, wtp, tnul, nul]
      by_cases e1 : nul p = true <;> by_cases e2 : nul q = true <;> simp [e1, e2] <;> omega
    | or p q =>
      have hm2 : a ∈ [[.pat p], [.pat q]] := hm
      rcases List.mem_cons.mp hm2 with rfl | hm2
      · simp only [List.cons_append, List.nil_append, wr, wtt, wtp, tnul, nul]
        by_cases e1 : nul p = true <;> by_cases e2 : nul q = true <;> simp [e1, e2] <;> omega
      · obtain rfl := List.mem_singleton.mp hm2
        simp only [List.cons_append, List.nil_append, wr, wtt, wtp, tnul, nul]
        by_cases e1 : nul p = true <;> by_cases e2 : nul q = true <;> simp [e1, e2] <;> omega
    | more p =>
      have hn : nul p = false := by
        have h2 : (!nul p && nr p) = true := h
        cases e : nul p
        · rfl
        · rw [e] at h2
          cases h2
      have hm2 : a ∈ [[.pat p, .pat (.more p)], []] := hm
      rcases List.mem_cons.mp hm2 with rfl | hm2
      · simp only [List.cons_append, List.nil_append, wr, wtt, wtp, tnul, nul, hn]
        simp <;> omega
      · obtain rfl := List.mem_singleton.mp hm2
        simp only [List.cons_append, List.nil_append, wr, wtt, wtp, tnul, nul, hn]
        simp <;> omega
    | less p =>
      have hn : nul p = false := by
        have h2 : (!nul p && nr p) = true := h
        cases e : nul p
        · rfl
        · rw [e] at h2
          cases h2
      have hm2 : a ∈ [[], [.pat p, .pat (.less p)]] := hm
      rcases List.mem_cons.mp hm2 with rfl | hm2
      · simp only [List.cons_append, List.nil_append, wr, wtt, wtp, tnul, nul, hn]
        simp <;> omega
      · obtain rfl := List.mem_singleton.mp hm2
        simp only [List.cons_append, List.nil_append, wr, wtt, wtp, tnul, nul, hn]
        simp <;> omega
    | group n p =>
      obtain rfl := List.mem_singleton.mp hm
      simp only [List.cons_append, List.nil_append, wr, wtt, wtp, tnul, nul]
      by_cases e1 : nul p = true <;> simp [e1] <;> omega
/-- a state that may stand on a walk of the pattern -/
def SOk (p : Pat) (z : List Nat) (s : Sta) : Prop := s.1 ∈ allr p ∧ s.2 ≤ z.length
theorem step_map' {t : Th} {r : List Th} {k : Nat} (h : tnr t = true) (hs : ∀ c, t ≠ .pat (.sign c)) (ha : t ≠ .pat .any) : ∀ s' ∈ (unf t).map (fun a => ((a ++ r, k) : Sta)), s'.2 = k ∧ wr s'.1 < wr (t :: r) := by
  intro s' h'
  obtain ⟨a, hm, rfl⟩ := List.mem_map.mp h'
  exact ⟨rfl, unf_dec h hs ha a hm⟩
theorem step_dec {z : List Nat} : ∀ {s : Sta}, (∀ t ∈ s.1, tnr t = true) → ∀ s' ∈ step z s, (s'.2 = s.2 + 1 ∧ s.2 < z.length) ∨ (s'.2 = s.2 ∧ wr s'.1 < wr s.1)
  | ([], _), _, s', h => absurd h List.not_mem_nil
  | (.pat (.sign c) :: r, k), hn, s', h => by
    have h : s' ∈ (if z[k]? = some c then [(r, k + 1)] else [] : List Sta) := h
    split at h
    · rename_i hc
      obtain rfl := List.mem_singleton.mp h
      exact .inl ⟨rfl, (List.getElem?_eq_some_iff.mp hc).1⟩
    · exact absurd h List.not_mem_nil
  | (.pat .any :: r, k), hn, s', h => by
    have h : s' ∈ (if k < z.length then [(r, k + 1)] else [] : List Sta) := h
    split at h
    · rename_i hc
      obtain rfl := List.mem_singleton.mp h
      exact .inl ⟨rfl, hc⟩
    · exact absurd h List.not_mem_nil
  | (.pat .none :: r, k), hn, s', h => .inr (step_map' (hn _ List.mem_cons_self) (fun c e => nomatch e) (fun e => nomatch e) s' h)
  | (.pat (.row _ _) :: r, k), hn, s', h => .inr (step_map' (hn _ List.mem_cons_self) (fun c e => nomatch e) (fun e => nomatch e) s' h)
  | (.pat (.or _ _) :: r, k), hn, s', h => .inr (step_map' (hn _ List.mem_cons_self) (fun c e => nomatch e) (fun e => nomatch e) s' h)
  | (.pat (.more _) :: r, k), hn, s', h => .inr (step_map' (hn _ List.mem_cons_self) (fun c e => nomatch e) (fun e => nomatch e) s' h)
  | (.pat (.less _) :: r, k), hn, s', h => .inr (step_map' (hn _ List.mem_cons_self) (fun c e => nomatch e) (fun e => nomatch e) s' h)
  | (.pat (.group _ _) :: r, k), hn, s', h => .inr (step_map' (hn _ List.mem_cons_self) (fun c e => nomatch e) (fun e => nomatch e) s' h)
  | (.close _ :: r, k), hn, s', h => .inr (step_map' (hn _ List.mem_cons_self) (fun c e => nomatch e) (fun e => nomatch e) s' h)
theorem SOk.step {p : Pat} {z : List Nat} {s : Sta} (hn : nr p = true) (h : SOk p z s) : ∀ s' ∈ Gm.step z s, SOk p z s' := by
  intro s' h'
  refine ⟨?_, ?_⟩
  · rcases step_adv z s with e | ⟨k, e⟩
    · rw [e] at h'
      exact absurd h' List.not_mem_nil
    · rw [e] at h'
      obtain ⟨r, hr, rfl⟩ := List.mem_map.mp h'
      exact allr_adv h.1 r hr
  · have h2 := h.2
    rcases step_dec (allr_ok hn _ h.1).nr s' h' with ⟨e, e2⟩ | ⟨e, _⟩ <;> omega
theorem SOk.first (p : Pat) (z : List Nat) : SOk p z ([.pat p], 0) := ⟨allr_first p, Nat.zero_le _⟩
/-! ### how long it may take -/
def Nxt (p : Pat) (z : List Nat) (s' s : Sta) : Prop := SOk p z s ∧ s' ∈ step z s
theorem nxt_wf {p : Pat} (hn : nr p = true) (z : List Nat) : WellFounded (Nxt p z) := by
  refine Subrelation.wf (r := InvImage (Prod.Lex (· < ·) (· < ·)) fun s : Sta => (z.length - s.2, wr s.1)) ?_ (InvImage.wf _ (Prod.lex Nat.lt_wfRel Nat.lt_wfRel).wf)
  intro s' s ⟨h, hm⟩
  show Prod.Lex (· < ·) (· < ·) (z.length - s'.2, wr s'.1) (z.length - s.2, wr s.1)
  rcases step_dec (allr_ok hn _ h.1).nr s' hm with ⟨e, e2⟩ | ⟨e, e2⟩
  · exact .left _ _ (by rw [e]; omega)
  · rw [e]
    exact .right _ e2
theorem cost_ex {p : Pat} (hn : nr p = true) (z : List Nat) : ∃ T : Sta → Nat, ∀ s, SOk p z s → T s = 1 + ((step z s).map fun s' => 1 + T s').sum := by
  classical
  refine ⟨(nxt_wf hn z).fix fun s ih => 1 + ((step z s).attach.map fun x => if h : SOk p z s then 1 + ih x.1 ⟨h, x.2⟩ else 0).sum, fun s hs => ?_⟩
  rw [WellFounded.fix_eq]
  congr 1
  congr 1
  refine Eq.trans ?_ (List.attach_map_val (l := step z s) (f := fun s' => 1 + _))
  refine List.map_congr_left fun x _ => ?_
  rw [dif_pos hs]
/-! ### ways -/
inductive Walk (z : List Nat) : Sta → List Nat → Sta → Prop where
  | nil {s : Sta} : Walk z s [] s
  | one {s a e : Sta} {w : List Nat} (h : step z s = [a]) (r : Walk z a w e) : Walk z s w e
  | left {s a b e : Sta} {w : List Nat} (h : step z s = [a, b]) (r : Walk z a w e) : Walk z s (0 :: w) e
  | right {s a b e : Sta} {w : List Nat} (h : step z s = [a, b]) (r : Walk z b w e) : Walk z s (1 :: w) e
def endS (z : List Nat) : Sta := ([], z.length)
def Reach (z : List Nat) (s : Sta) : Prop := ∃ w, Walk z s w (endS z)
theorem step_nil (z : List Nat) (k : Nat) : step z ([], k) = [] := rfl
theorem step_end (z : List Nat) : step z (endS z) = [] := rfl
inductive First (z : List Nat) : Sta → List Nat → Prop where
  | nil : First z (endS z) []
  | one {s a : Sta} {w : List Nat} (h : step z s = [a]) (r : First z a w) : First z s w
  | left {s a b : Sta} {w : List Nat} (h : step z s = [a, b]) (r : First z a w) : First z s (0 :: w)
  | right {s a b : Sta} {w : List Nat} (h : step z s = [a, b]) (n : ¬ Reach z a) (r : First z b w) : First z s (1 :: w)
theorem First.walk {z : List Nat} {s : Sta} {w : List Nat} (h : First z s w) : Walk z s w (endS z) := by
  induction h with
  | nil => exact .nil
  | one h _ ih => exact .one h ih
  | left h _ ih => exact .left h ih
  | right h _ _ ih => exact .right h ih
theorem dead_no {z : List Nat} {D : Sta → Prop} (hD : ∀ s, D s → s ≠ endS z ∧ ∀ s' ∈ step z s, D s') {s : Sta} (h : D s) : ¬ Reach z s := by
  rintro ⟨w, hw⟩
  generalize he : endS z = e at hw
  induction hw with
  | nil => exact (hD _ h).1 he.symm
  | one h1 _ ih => exact ih ((hD _ h).2 _ (by rw [h1]; simp)) he
  | left h1 _ ih => exact ih ((hD _ h).2 _ (by rw [h1]; simp)) he
  | right h1 _ ih => exact ih ((hD _ h).2 _ (by rw [h1]; simp)) he
theorem First.uniq {z : List Nat} {s : Sta} {w w' : List Nat} (h : First z s w) (h' : First z s w') : w = w' := by
  induction h generalizing w' with
  | nil =>
    cases h' with
    | nil => rfl
    | one h => rw [step_end] at h; cases h
    | left h => rw [step_end] at h; cases h
    | right h => rw [step_end] at h; cases h
  | one h r ih =>
    cases h' with
    | nil => rw [step_end] at h; cases h
    | one h2 r2 => rw [h] at h2; cases h2; exact ih r2
    | left h2 => rw [h] at h2; cases h2
    | right h2 => rw [h] at h2; cases h2
  | left h r ih =>
    cases h' with
    | nil => rw [step_end] at h; cases h
    | one h2 r2 => rw [h] at h2; cases h2
    | left h2 r2 => rw [h] at h2; cases h2; rw [ih r2]
    | right h2 n2 r2 => rw [h] at h2; cases h2; exact absurd ⟨_, r.walk⟩ n2
  | right h n r ih =>
    cases h' with
    | nil => rw [step_end] at h; cases h
    | one h2 r2 => rw [h] at h2; cases h2
    | left h2 r2 => rw [h] at h2; cases h2; exact absurd ⟨_, r2.walk⟩ n
    | right h2 n2 r2 => rw [h] at h2; cases h2; rw [ih r2]
/-- the steps below the top, from the start on, each with its choice -/
def Chain (z : List Nat) (D : Sta → Prop) : Sta → List (Sta × Nat) → Sta → Prop
  | s, [], t => s = t
  | s, (s', c) :: r, t => s' = s ∧ ∃ s1, (step z s)[c]? = some s1 ∧ (∀ j x, j < c → (step z s)[j]? = some x → D x) ∧ Chain z D s1 r t
theorem Chain.snoc {z : List Nat} {D : Sta → Prop} {t t' : Sta} {c : Nat} (h1 : (step z t)[c]? = some t') (h2 : ∀ j x, j < c → (step z t)[j]? = some x → D x) : ∀ {s : Sta} {r : List (Sta × Nat)}, Chain z D s r t → Chain z D s (r ++ [(t, c)]) t'
  | s, [], h => by
    obtain rfl : s = t := h
    exact ⟨rfl, t', h1, h2, rfl⟩
  | s, (s', c') :: r, h => by
    obtain ⟨e, s1, a1, a2, a3⟩ := h
    exact ⟨e, s1, a1, a2, Chain.snoc h1 h2 a3⟩
theorem Chain.unsnoc {z : List Nat} {D : Sta → Prop} {t t' : Sta} {c : Nat} : ∀ {s : Sta} {r : List (Sta × Nat)}, Chain z D s (r ++ [(t', c)]) t → Chain z D s r t' ∧ (step z t')[c]? = some t ∧ ∀ j x, j < c → (step z t')[j]? = some x → D x
  | s, [], h => by
    obtain ⟨rfl, s1, a1, a2, a3⟩ := h
    obtain rfl : s1 = t := a3
    exact ⟨rfl, a1, a2⟩
  | s, (s', c') :: r, h => by
    obtain ⟨e, s1, a1, a2, a3⟩ := h
    obtain ⟨b1, b2⟩ := Chain.unsnoc a3
    exact ⟨⟨e, s1, a1, a2, b1⟩, b2⟩
theorem Chain.mono {z : List Nat} {D D' : Sta → Prop} (hD : ∀ s, D s → D' s) {t : Sta} : ∀ {s : Sta} {r : List (Sta × Nat)}, Chain z D s r t → Chain z D' s r t
  | s, [], h => h
  | s, (s', c') :: r, h => by
    obtain ⟨e, s1, a1, a2, a3⟩ := h
    exact ⟨e, s1, a1, fun j x hj hx => hD x (a2 j x hj hx), Chain.mono hD a3⟩
/-- the choices where there was one -/
def wayOf (z : List Nat) (r : List (Sta × Nat)) : List Nat := r.filterMap fun x => if (step z x.1).length = 2 then some x.2 else none
theorem wayOf_cons (z : List Nat) (x : Sta × Nat) (r : List (Sta × Nat)) : wayOf z (x :: r) = (if (step z x.1).length = 2 then [x.2] else []) ++ wayOf z r := by
  unfold wayOf
  rw [List.filterMap_cons]
  split <;> rename_i h
  · split at h
    · cases h
    · simp [*]
  · split at h
    · cases h
      simp [*]
    · cases h
theorem Chain.first {z : List Nat} {D : Sta → Prop} (hD : ∀ s, D s → ¬ Reach z s) : ∀ {s : Sta} {r : List (Sta × Nat)}, Chain z D s r (endS z) → First z s (wayOf z r)
  | s, [], h => by
    obtain rfl : s = endS z := h
    exact .nil
  | s, (s', c) :: r, h => by
    obtain ⟨rfl, s1, a1, a2, a3⟩ := h
    have ih := Chain.first hD a3
    have h2 := step_two z s'
    rw [wayOf_cons]
    match e : step z s', h2 with
    | [], _ => rw [e] at a1; simp at a1
    | [a], _ =>
      rw [e] at a1
      have hc : c = 0 := by
        have := (List.getElem?_eq_some_iff.mp a1).1
        simp at this
        exact this
      subst hc
      cases Option.some.inj a1
      simp only [e, List.length_singleton, show ¬ (1 = 2) by decide, if_false, List.nil_append]
      exact .one e ih
    | [a, b], _ =>
      rw [e] at a1
      have hc : c < 2 := by
        have := (List.getElem?_eq_some_iff.mp a1).1
        simpa using this
      simp only [e, List.length_cons, List.length_nil, if_true, List.singleton_append]
      match c, hc with
      | 0, _ =>
        cases Option.some.inj a1
        exact .left e ih
      | 1, _ =>
        cases Option.some.inj a1
        exact .right e (hD a (a2 0 a (by decide) (by rw [e]; rfl))) ih
/-! ### rests as data -/
def rpd (r : List Th) : PyData := .tuple (r.map tpd)
theorem eqvAll_c (x y : PyData) (xs ys : List PyData) : PyData.eqvAll (x :: xs) (y :: ys) = (PyData.eqv x y && PyData.eqvAll xs ys) := by rw [PyData.eqvAll]
theorem eqv_t (xs ys : List PyData) : PyData.eqv (.tuple xs) (.tuple ys) = PyData.eqvAll xs ys := by rw [PyData.eqv]
theorem eqv_s (x y : Str) : PyData.eqv (.str x) (.str y) = (x == y) := by rw [PyData.eqv]
theorem eqv_i (x y : Int) : PyData.eqv (.int x) (.int y) = (x == y) := by rw [PyData.eqv]
def kd : Th → Nat
  | .pat (.sign _) => 0
  | .pat .any => 1
  | .pat .none => 2
  | .pat (.row _ _) => 3
  | .pat (.or _ _) => 4
  | .pat (.more _) => 5
  | .pat (.less _) => 6
  | .pat (.group _ _) => 7
  | .close _ => 8
def nk (s : Str) : Nat := if s = "sign" then 0 else if s = "any" then 1 else if s = "none" then 2 else if s = "row" then 3 else if s = "or" then 4 else if s = "more" then 5 else if s = "less" then 6 else if s = "group" then 7 else 8
theorem nk_nm (t : Th) : nk (tnm t) = kd t := by
  cases t with
  | close n => exact (by decide +kernel : nk "close" = 8)
  | pat p =>
    cases p with
    | sign c => exact (by decide +kernel : nk "sign" = 0)
    | any => exact (by decide +kernel : nk "any" = 1)
    | none => exact (by decide +kernel : nk "none" = 2)
    | row p q => exact (by decide +kernel : nk "row" = 3)
    | or p q => exact (by decide +kernel : nk "or" = 4)
    | more p => exact (by decide +kernel : nk "more" = 5)
    | less p => exact (by decide +kernel : nk "less" = 6)
    | group n p => exact (by decide +kernel : nk "group" = 7)
def ptl : Th → List PyData
  | .pat (.sign c) => [.str ⟨#[c]⟩]
  | .pat .any => []
  | .pat .none => []
  | .pat (.row p q) => [pd p, pd q]
  | .pat (.or p q) => [pd p, pd q]
  | .pat (.more p) => [pd p]
  | .pat (.less p) => [pd p]
  | .pat (.group n p) => [.int n, pd p]
  | .close n => [.int n]
theorem tpd_eq (t : Th) : tpd t = .tuple (.str (tnm t) :: ptl t) := by
  cases t with
  | close n => rfl
  | pat p => cases p <;> rfl
theorem tpd_kd {t u : Th} (h : PyData.eqv (tpd t) (tpd u) = true) : kd t = kd u ∧ PyData.eqvAll (ptl t) (ptl u) = true := by
  rw [tpd_eq, tpd_eq, eqv_t, eqvAll_c, eqv_s, Bool.and_eq_true_iff] at h
  refine ⟨?_, h.2⟩
  rw [← nk_nm, ← nk_nm, eq_of_beq h.1]
theorem pd_inj : ∀ p q : Pat, PyData.eqv (pd p) (pd q) = true → p = q := by
  intro p
  induction p with
  | sign c =>
    intro q h
    obtain ⟨k, h2⟩ := tpd_kd (t := .pat (.sign c)) (u := .pat q) h
    cases q <;> first | (simp [kd] at k; done) | skip
    rw [show ptl (.pat (.sign c)) = [.str ⟨#[c]⟩] from rfl, show ptl (.pat (.sign _)) = [.str ⟨#[_]⟩] from rfl, eqvAll_c, eqv_s, Bool.and_eq_true_iff] at h2
    have := eq_of_beq h2.1
    simp at this
    rw [this]
  | any =>
    intro q h
    obtain ⟨k, h2⟩ := tpd_kd (t := .pat .any) (u := .pat q) h
    cases q <;> first | (simp [kd] at k; done) | rfl
  | none =>
    intro q h
    obtain ⟨k, h2⟩ := tpd_kd (t := .pat .none) (u := .pat q) h
    cases q <;> first | (simp [kd] at k; done) | rfl
  | row p1 p2 i1 i2 =>
    intro q h
    obtain ⟨k, h2⟩ := tpd_kd (t := .pat (.row p1 p2)) (u := .pat q) h
    cases q <;> first | (simp [kd] at k; done) | skip
    rename_i q1 q2
    have h2 : PyData.eqvAll [pd p1, pd p2] [pd q1, pd q2] = true := h2
    rw [eqvAll_c, eqvAll_c, Bool.and_eq_true_iff, Bool.and_eq_true_iff] at h2
    rw [i1 _ h2.1, i2 _ h2.2.1]
  | or p1 p2 i1 i2 =>
    intro q h
    obtain ⟨k, h2⟩ := tpd_kd (t := .pat (.or p1 p2)) (u := .pat q) h
    cases q <;> first | (simp [kd] at k; done) | skip
    rename_i q1 q2
    have h2 : PyData.eqvAll [pd p1, pd p2] [pd q1, pd q2] = true := h2
    rw [eqvAll_c, eqvAll_c, Bool.and_eq_true_iff, Bool.and_eq_true_iff] at h2
    rw [i1 _ h2.1, i2 _ h2.2.1]
  | more p1 i1 =>
    intro q h
    obtain ⟨k, h2⟩ := tpd_kd (t := .pat (.more p1)) (u := .pat q) h
    cases q <;> first | (simp [kd] at k; done) | skip
    rename_i q1
    have h2 : PyData.eqvAll [pd p1] [pd q1] = true := h2
    rw [eqvAll_c, Bool.and_eq_true_iff] at h2
    rw [i1 _ h2.1]
  | less p1 i1 =>
    intro q h
    obtain ⟨k, h2⟩ := tpd_kd (t := .pat (.less p1)) (u := .pat q) h
    cases q <;> first | (simp [kd] at k; done) | skip
    rename_i q1
    have h2 : PyData.eqvAll [pd p1] [pd q1] = true := h2
    rw [eqvAll_c, Bool.and_eq_true_iff] at h2
    rw [i1 _ h2.1]
  | group n p1 i1 =>
    intro q h
    obtain ⟨k, h2⟩ := tpd_kd (t := .pat (.group n p1)) (u := .pat q) h
    cases q <;> first | (simp [kd] at k; done) | skip
    rename_i m q1
    have h2 : PyData.eqvAll [.int n, pd p1] [.int m, pd q1] = true := h2
    rw [eqvAll_c, eqvAll_c, eqv_i, Bool.and_eq_true_iff, Bool.and_eq_true_iff] at h2
    rw [i1 _ h2.2.1, eq_of_beq h2.1]
theorem tpd_inj {t u : Th} (h : PyData.eqv (tpd t) (tpd u) = true) : t = u := by
  cases t with
  | pat p =>
    cases u with
    | pat q => rw [pd_inj p q h]
    | close m => obtain ⟨k, _⟩ := tpd_kd h; cases p <;> simp [kd] at k
  | close n =>
    cases u with
    | pat q => obtain ⟨k, _⟩ := tpd_kd h; cases q <;> simp [kd] at k
    | close m =>
      obtain ⟨_, h2⟩ := tpd_kd h
      have h2 : PyData.eqvAll [.int n] [.int m] = true := h2
      rw [eqvAll_c, eqv_i, Bool.and_eq_true_iff] at h2
      rw [eq_of_beq h2.1]
theorem tpds_inj : ∀ r r' : List Th, PyData.eqvAll (r.map tpd) (r'.map tpd) = true → r = r'
  | [], [], _ => rfl
  | [], _ :: _, h => by simp [PyData.eqvAll] at h
  | _ :: _, [], h => by simp [PyData.eqvAll] at h
  | t :: r, u :: r', h => by
    rw [List.map_cons, List.map_cons, eqvAll_c, Bool.and_eq_true_iff] at h
    rw [tpd_inj h.1, tpds_inj r r' h.2]
theorem rpd_inj {r r' : List Th} (h : PyData.eqv (rpd r) (rpd r') = true) : r = r' := by
  unfold rpd at h
  rw [eqv_t] at h
  exact tpds_inj r r' h
theorem u65 {A : Around} {k : Nat} (hr : Room k A) : A.units + 65 < cLine := by
  have := hr.un
  omega
end Gm

set_option maxRecDepth 100000
set_option maxHeartbeats 4000000
/-! list(zip(a, b)) of two lists -/
namespace Gm
open PySem PySem.Spec PySem.Calls PyProof.Rows PySem.W L2
theorem zip_len_no : typeLookup (.type "zip") "__len__" = pure none := by rw [typeLookup_type, builtinLookup_eq_fast]; kernel_rfl
theorem zip_hint_no : typeLookup (.type "zip") "__length_hint__" = pure none := by rw [typeLookup_type, builtinLookup_eq_fast]; kernel_rfl
section
variable {prog : Program} {w : World} {A : Around} {E : Value → Shared → Prop} {s : Shared}
theorem zip_hint {z : Addr} {Q : Bool → Shared → Prop} (hT : s.TypeIs (.ref z) "zip") (q : Q true s) : wpAny (model prog w) A (Builtin.List.listLengthHint (.ref z)) Q E s := by
  unfold Builtin.List.listLengthHint
  refine wpAny_bind (wpAny_specialOf hT zip_len_no ?_)
  refine wpAny_ite_split (fun c => absurd c (by decide)) (fun _ => ?_)
  refine wpAny_ite_split (fun c => absurd c (by decide)) (fun _ => ?_)
  refine wpAny_bind (wpAny_specialOf hT zip_hint_no ?_)
  exact wpAny_pure q
/-- a zip that is being drawn into the list at S -/
def ZSt (h : Heap) (z TI TO i1 i2 l1 l2 S : Addr) (xs ys : Array Value) (i : Nat) : Prop :=
  IsPair h TI (.ref i1) (.ref i2) ∧ h.IsListIter i1 l1 i ∧ h.IsListIter i2 l2 i ∧ h.IsList l1 xs ∧ h.IsList l2 ys ∧
    ((IsZip h z TI TO .none ∧ ∃ a b, IsPair h TO a b) ∨ ∃ T f oT, IsZipHeld h z TI TO T f ∧ h.get? T = some oT ∧ T ≠ z ∧ T ≠ i1 ∧ T ≠ i2 ∧ T ≠ S)
structure Far (z TI TO i1 i2 l1 l2 S : Addr) : Prop where
  z : z ≠ S
  ti : TI ≠ S
  to : TO ≠ S
  i1 : i1 ≠ S
  i2 : i2 ≠ S
  l1 : l1 ≠ S
  l2 : l2 ≠ S
theorem ZSt.keep {h h' : Heap} {z TI TO i1 i2 l1 l2 S : Addr} {xs ys : Array Value} {i : Nat} (F : Far z TI TO i1 i2 l1 l2 S) (t : ZSt h z TI TO i1 i2 l1 l2 S xs ys i) (k : ∀ b o, b ≠ S → h.get? b = some o → h'.get? b = some o) : ZSt h' z TI TO i1 i2 l1 l2 S xs ys i := by
  obtain ⟨t1, t2, t3, t4, t5, t6⟩ := t
  refine ⟨k _ _ F.ti t1, t2.at fun o => k _ o F.i1, t3.at fun o => k _ o F.i2, t4.at fun o => k _ o F.l1, t5.at fun o => k _ o F.l2, ?_⟩
  rcases t6 with ⟨e, a, b, e2⟩ | ⟨T, f, oT, e, e2, n1, n2, n3, n4⟩
  · exact .inl ⟨k _ _ F.z e, a, b, k _ _ F.to e2⟩
  · exact .inr ⟨T, f, oT, k _ _ F.z e, k _ _ n4 e2, n1, n2, n3, n4⟩
theorem zst_item {z TI TO i1 i2 l1 l2 S : Addr} {xs ys : Array Value} {i : Nat} {x y : Value} {Q : Option Value → Shared → Prop} (D : ZipApart z TI TO i1 i2 l1 l2) (t : ZSt s.heap z TI TO i1 i2 l1 l2 S xs ys i) (hS : S < s.heap.objs.size)
    (hx : xs[i]? = some x) (hy : ys[i]? = some y)
    (q : ∀ h', ZSt h' z TI TO i1 i2 l1 l2 S xs ys (i + 1) → IsPair h' s.heap.objs.size x y → h'.objs.size = s.heap.objs.size + 1 → (∀ b o, b ≠ z → b ≠ TO → b ≠ i1 → b ≠ i2 → s.heap.get? b = some o → h'.get? b = some o) → Q (some (.ref s.heap.objs.size)) { s with heap := h' }) :
    wpAny (model prog w) A (pyNext (.ref z)) Q E s := by
  obtain ⟨t1, t2, t3, t4, t5, t6⟩ := t
  have far : ∀ {c : Addr} {o : Obj}, s.heap.get? c = some o → s.heap.objs.size ≠ c := fun e => Nat.ne_of_gt (Heap.lt_size e)
  have f1 : s.heap.objs.size ≠ i1 := let ⟨_, e, _⟩ := t2; far e
  have f2 : s.heap.objs.size ≠ i2 := let ⟨_, e, _⟩ := t3; far e
  rcases t6 with ⟨e, a, b, e2⟩ | ⟨T, f, oT, e, e2, n1, n2, n3, n4⟩
  · exact wpAny_pyNext_zip_item D e t1 e2 t2 t3 t4 t5 hx hy fun h' b1 b2 b3 b4 b5 b6 k =>
      q h' ⟨k _ _ D.TIz D.TITO D.TIi1 D.TIi2 t1, b3, b4, t4.at (fun o => k _ o D.l1z D.l1TO D.l1i1 D.l1i2), t5.at (fun o => k _ o D.l2z D.l2TO D.l2i1 D.l2i2), .inr ⟨_, false, _, b1, b5, far e, f1, f2, Nat.ne_of_gt hS⟩⟩ b5 b6 k
  · exact wpAny_pyNext_zip_item_held D e e2 t1 t2 t3 t4 t5 hx hy fun h' b1 b3 b4 b5 b6 k =>
      q h' ⟨k _ _ D.TIz D.TIi1 D.TIi2 t1, b3, b4, t4.at (fun o => k _ o D.l1z D.l1i1 D.l1i2), t5.at (fun o => k _ o D.l2z D.l2i1 D.l2i2), .inr ⟨T, true, oT, b1, k _ _ n1 n2 n3 e2, n1, n2, n3, n4⟩⟩ b5 b6 fun b o c1 _ c3 c4 => k b o c1 c3 c4
theorem zst_done {z TI TO i1 i2 l1 l2 S : Addr} {xs ys : Array Value} {i : Nat} {Q : Option Value → Shared → Prop} (hh : A.handled = none) (D : ZipApart z TI TO i1 i2 l1 l2) (t : ZSt s.heap z TI TO i1 i2 l1 l2 S xs ys i) (hend : xs[i]? = none ∨ ys[i]? = none)
    (q : ∀ h', (∀ b o, b ≠ z → b ≠ TO → b ≠ i1 → b ≠ i2 → s.heap.get? b = some o → h'.get? b = some o) → Q none { s with heap := h' }) : wpAny (model prog w) A (pyNext (.ref z)) Q E s := by
  obtain ⟨t1, t2, t3, t4, t5, t6⟩ := t
  rcases t6 with ⟨e, a, b, e2⟩ | ⟨T, f, oT, e, e2, _⟩
  · exact wpAny_pyNext_zip_end hh D e t1 e2 t2 t3 t4 t5 hend q
  · exact wpAny_pyNext_zip_end_held hh D e e2 t1 t2 t3 t4 t5 hend fun h' k => q h' fun b o c1 _ c3 c4 => k b o c1 c3 c4
/-- the tuples that were drawn, all behind lo -/
structure ZG (xs ys : Array Value) (lo : Addr) (h : Heap) (as : List Addr) : Prop where
  up : as.Pairwise (· < ·)
  hi : ∀ a ∈ as, lo < a
  at' : ∀ (j : Nat) (a : Addr), as[j]? = some a → ∃ x y, xs[j]? = some x ∧ ys[j]? = some y ∧ IsPair h a x y
theorem ZG.lt {xs ys : Array Value} {lo : Addr} {h : Heap} {as : List Addr} (g : ZG xs ys lo h as) {a : Addr} (m : a ∈ as) : a < h.objs.size := by
  obtain ⟨j, e⟩ := List.mem_iff_getElem?.mp m
  obtain ⟨_, _, _, _, e2⟩ := g.at' j a e
  exact Heap.lt_size e2
theorem ZG.keep {xs ys : Array Value} {lo : Addr} {h h' : Heap} {as : List Addr} (g : ZG xs ys lo h as) (k : ∀ a, lo < a → ∀ o, h.get? a = some o → h'.get? a = some o) : ZG xs ys lo h' as := ⟨g.up, g.hi, fun j a e => by
  obtain ⟨x, y, e1, e2, e3⟩ := g.at' j a e
  exact ⟨x, y, e1, e2, k a (g.hi a (List.mem_of_getElem? e)) _ e3⟩⟩
theorem ZG.snoc {xs ys : Array Value} {lo a : Addr} {h : Heap} {as : List Addr} {x y : Value} (g : ZG xs ys lo h as) (ha : ∀ b ∈ as, b < a) (hl : lo < a) (hx : xs[as.length]? = some x) (hy : ys[as.length]? = some y) (e : IsPair h a x y) : ZG xs ys lo h (as ++ [a]) := by
  refine ⟨List.pairwise_append.mpr ⟨g.up, List.pairwise_singleton _ _, fun b hb c hc => ?_⟩, fun b hb => ?_, fun j b hj => ?_⟩
  · rw [List.mem_singleton.mp hc]
    exact ha b hb
  · rcases List.mem_append.mp hb with z | z
    · exact g.hi b z
    · rw [List.mem_singleton.mp z]
      exact hl
  · by_cases c : j < as.length
    · rw [List.getElem?_append_left c] at hj
      exact g.at' j b hj
    · have hj2 := (List.getElem?_eq_some_iff.mp hj).1
      rw [List.length_append, List.length_singleton] at hj2
      obtain rfl : j = as.length := by omega
      obtain rfl : a = b := by simpa using hj
      exact ⟨x, y, hx, hy, e⟩
theorem zl_loop {R : Result → Shared → Prop} {z TI TO i1 i2 l1 l2 S lo : Addr} {xs ys : Array Value} {n : Nat} (hh : A.handled = none) (D : ZipApart z TI TO i1 i2 l1 l2) (F : Far z TI TO i1 i2 l1 l2 S) (hn : n = min xs.size ys.size) (hz : n ≤ sizeLine) (res : Value)
    (lz : z ≤ lo) (lTO : TO ≤ lo) (li1 : i1 ≤ lo) (li2 : i2 ≤ lo) (lS : S ≤ lo) {h₁ : Heap}
    (hR : ∀ h' tk acc c as, (∀ b o, b ≠ S → b ≠ z → b ≠ TO → b ≠ i1 → b ≠ i2 → h₁.get? b = some o → h'.get? b = some o) → h'.get? S = some { cls := .type "list", dict := none, data := .seq acc c, slots := #[] } → as.length = n → ZG xs ys lo h' as → acc.toList = as.map Value.ref →
      R (.ok (.ret res)) { s with heap := h', toks := tk }) :
    ∀ (k i : Nat) (h : Heap) (tk c : Nat) (acc : Array Value) (as : List Addr), n - i = k → i ≤ n → ZSt h z TI TO i1 i2 l1 l2 S xs ys i → (∀ b o, b ≠ S → b ≠ z → b ≠ TO → b ≠ i1 → b ≠ i2 → h₁.get? b = some o → h.get? b = some o) →
      h.get? S = some { cls := .type "list", dict := none, data := .seq acc c, slots := #[] } → acc.toList = as.map Value.ref → as.length = i → ZG xs ys lo h as → lo < h.objs.size →
      codeAny (model prog w) A (.builtin "list.extend.loop" ⟨[.ref S, .ref z, res], []⟩) R { s with heap := h, toks := tk } := by
  have off : ∀ a, lo < a → a ≠ S ∧ a ≠ z ∧ a ≠ TO ∧ a ≠ i1 ∧ a ≠ i2 := fun a ha => ⟨Nat.ne_of_gt (Nat.lt_of_le_of_lt lS ha), Nat.ne_of_gt (Nat.lt_of_le_of_lt lz ha), Nat.ne_of_gt (Nat.lt_of_le_of_lt lTO ha), Nat.ne_of_gt (Nat.lt_of_le_of_lt li1 ha), Nat.ne_of_gt (Nat.lt_of_le_of_lt li2 ha)⟩
  intro k
  induction k with
  | zero =>
    intro i h tk c acc as hk hi st keep hS hacc hal g hlo
    obtain rfl : i = n := by omega
    refine codeAny_builtin PySem.F.entry_extend_loop ?_
    rw [Around.under_plainId PySem.F.plain_extend_loop _]
    show wpAny _ A.in1 (pyNext (.ref z) >>= _) _ _ _
    have hend : xs[i]? = none ∨ ys[i]? = none := by
      rcases Nat.le_total xs.size ys.size with z | z
      · exact .inl (Array.getElem?_eq_none (by omega))
      · exact .inr (Array.getElem?_eq_none (by omega))
    refine wpAny_bind (zst_done (s := { s with heap := h, toks := tk }) (A := A.in1) hh D st hend fun h' e => ?_)
    refine wpAny_pure (hR h' tk acc c as (fun b o c1 c2 c3 c4 c5 q => e b o c2 c3 c4 c5 (keep b o c1 c2 c3 c4 c5 q)) (e S _ F.z.symm F.to.symm F.i1.symm F.i2.symm hS) hal (g.keep fun a ha o q => ?_) hacc)
    obtain ⟨_, c2, c3, c4, c5⟩ := off a ha
    exact e a o c2 c3 c4 c5 q
  | succ k ih =>
    intro i h tk c acc as hk hi st keep hS hacc hal g hlo
    have lx : i < xs.size := by omega
    have ly : i < ys.size := by omega
    refine codeAny_builtin PySem.F.entry_extend_loop ?_
    rw [Around.under_plainId PySem.F.plain_extend_loop _]
    show wpAny _ A.in1 (pyNext (.ref z) >>= _) _ _ _
    refine wpAny_bind (zst_item (s := { s with heap := h, toks := tk }) (A := A.in1) D st (Heap.lt_size hS) (Array.getElem?_eq_getElem lx) (Array.getElem?_eq_getElem ly) fun h' st' ht sz' e => ?_)
    dsimp only at ht sz' e ⊢
    have hS' := e S _ F.z.symm F.to.symm F.i1.symm F.i2.symm hS
    have upd' : ∀ b o, b ≠ S → h'.get? b = some o → (h'.update S (Obj.mapSeq (·.push (Value.ref h.objs.size)))).get? b = some o := fun b o hb q => (Heap.get?_update_other _ _ (Ne.symm hb)).trans q
    have hsz : acc.size = i := by rw [← Array.length_toList, hacc, List.length_map, hal]
    have nS : h.objs.size ≠ S := Nat.ne_of_gt (Heap.lt_size hS)
    have step : codeAny (model prog w) A (.builtin "list.extend.loop" ⟨[.ref S, .ref z, res], []⟩) R { s with heap := h'.update S (Obj.mapSeq (·.push (Value.ref h.objs.size))), toks := tk } := by
      refine ih (i + 1) _ tk _ (acc.push (Value.ref h.objs.size)) (as ++ [h.objs.size]) (by omega) (by omega) (st'.keep F upd') (fun b o c1 c2 c3 c4 c5 q => upd' b o c1 (e b o c2 c3 c4 c5 (keep b o c1 c2 c3 c4 c5 q))) (Heap.get?_update_self _ hS' rfl)
        (by rw [Array.toList_push, hacc, List.map_append]; rfl) (by rw [List.length_append, hal]; rfl) ?_ ?_
      · have g1 : ZG xs ys lo h' as := g.keep fun a ha o q => by
          obtain ⟨_, c2, c3, c4, c5⟩ := off a ha
          exact e a o c2 c3 c4 c5 q
        have g2 : ZG xs ys lo (h'.update S (Obj.mapSeq (·.push (Value.ref h.objs.size)))) as := g1.keep fun a ha o q => upd' a o (off a ha).1 q
        exact g2.snoc (fun b hb => g.lt hb) hlo (by rw [hal]; exact Array.getElem?_eq_getElem lx) (by rw [hal]; exact Array.getElem?_eq_getElem ly) (upd' _ _ nS ht)
      · exact Nat.lt_trans hlo (Heap.lt_size (upd' _ _ nS ht))
    show wpAny _ A.in1 (updateSeq S (·.push (Value.ref h.objs.size)) >>= _) _ _ _
    refine wpAny_bind (wpAny_updateSeq hS' rfl (wpAny_pure ⟨plainId_quiet PySem.F.plain_extend_loop _, step⟩) (by rw [hsz]; omega) ?_)
    show (acc.push (Value.ref h.objs.size)).size ≤ sizeLine + 1
    rw [Array.size_push, hsz]
    omega
theorem zl_call {z TI TO i1 i2 l1 l2 : Addr} {xs ys : Array Value} {n : Nat} {a b : Value} {Q : Value → Shared → Prop} (hh : A.handled = none) (D : ZipApart z TI TO i1 i2 l1 l2) (hn : n = min xs.size ys.size) (hz : n ≤ sizeLine)
    (e0 : IsZip s.heap z TI TO .none) (e1 : IsPair s.heap TI (.ref i1) (.ref i2)) (e2 : IsPair s.heap TO a b) (e3 : s.heap.IsListIter i1 l1 0) (e4 : s.heap.IsListIter i2 l2 0) (e5 : s.heap.IsList l1 xs) (e6 : s.heap.IsList l2 ys)
    (hQ : ∀ h' tk acc c as, (∀ b o, b ≠ z → b ≠ TO → b ≠ i1 → b ≠ i2 → s.heap.get? b = some o → h'.get? b = some o) → h'.get? s.heap.objs.size = some { cls := .type "list", dict := none, data := .seq acc c, slots := #[] } → as.length = n →
      ZG xs ys s.heap.objs.size h' as → acc.toList = as.map Value.ref → Q (.ref s.heap.objs.size) { s with heap := h', toks := tk }) :
    wpAny (model prog w) A (call (.type "list") [.ref z]) Q E s := by
  refine callType_codes (Q₁ := fun ob st => ob = .ref s.heap.objs.size ∧ st = { s with heap := s.heap.push { cls := .type "list", data := .seq #[] } }) PySem.F.called_list (PySem.F.typeCall_list_1 _) PySem.F.entry_list_init
    (code_list_new _ ⟨rfl, rfl⟩) fun obj s₁ both => ?_
  obtain ⟨rfl, rfl⟩ := both
  have g0 : (s.heap.push { cls := .type "list", data := .seq #[] }).get? s.heap.objs.size = some { cls := .type "list", data := .seq #[] } := Heap.get?_push_size _ rfl
  refine ⟨⟨_, g0, rfl⟩, PySem.F.args_list_init_2 _ _, ?_⟩
  have lt : ∀ {c : Addr} {o : Obj}, s.heap.get? c = some o → c < s.heap.objs.size := fun e => Heap.lt_size e
  have li1 : i1 < s.heap.objs.size := let ⟨_, e, _⟩ := e3; lt e
  have li2 : i2 < s.heap.objs.size := let ⟨_, e, _⟩ := e4; lt e
  have ll1 : l1 < s.heap.objs.size := let ⟨_, e, _⟩ := e5; lt e
  have ll2 : l2 < s.heap.objs.size := let ⟨_, e, _⟩ := e6; lt e
  have far : Far z TI TO i1 i2 l1 l2 s.heap.objs.size := ⟨Nat.ne_of_lt (lt e0), Nat.ne_of_lt (lt e1), Nat.ne_of_lt (lt e2), Nat.ne_of_lt li1, Nat.ne_of_lt li2, Nat.ne_of_lt ll1, Nat.ne_of_lt ll2⟩
  have st0 : ZSt (s.heap.push { cls := .type "list", data := .seq #[] }) z TI TO i1 i2 l1 l2 s.heap.objs.size xs ys 0 :=
    ⟨Heap.get?_push_of_some _ e1, e3.at (fun o => Heap.get?_push_of_some _), e4.at (fun o => Heap.get?_push_of_some _), e5.at (fun o => Heap.get?_push_of_some _), e6.at (fun o => Heap.get?_push_of_some _), .inl ⟨Heap.get?_push_of_some _ e0, a, b, Heap.get?_push_of_some _ e2⟩⟩
  show wpAny _ _ (do let old ← Builtin.List.listItems (.ref s.heap.objs.size); Builtin.List.listUpdate (.ref s.heap.objs.size) (fun _ => #[]); letGo old.toList.reverse; Builtin.List.listExtendWith (.ref s.heap.objs.size) (.ref z) .none) _ _ _
  refine wpAny_bind ?_
  unfold Builtin.List.listItems
  refine wpAny_bind (wpAny_seqItems g0 rfl (wpAny_pure ?_))
  show wpAny _ _ (updateSeq s.heap.objs.size (fun _ => #[]) >>= fun _ => letGo (#[] : Array Value).toList.reverse >>= fun _ => Builtin.List.listExtendWith (.ref s.heap.objs.size) (.ref z) .none) _ _ _
  refine wpAny_bind (wpAny_updateSeq g0 rfl ?_)
  have g1 := Heap.get?_update_self (Obj.mapSeq (fun _ => (#[] : Array Value))) g0 rfl
  have k1 : ∀ b o, b ≠ s.heap.objs.size → (s.heap.push { cls := .type "list", data := .seq #[] }).get? b = some o → ((s.heap.push { cls := .type "list", data := .seq #[] }).update s.heap.objs.size (Obj.mapSeq (fun _ => (#[] : Array Value)))).get? b = some o :=
    fun c u hc e => (Heap.get?_update_other _ _ (Ne.symm hc)).trans e
  have st1 := st0.keep far k1
  have up1 : ∀ b o, s.heap.get? b = some o → ((s.heap.push { cls := .type "list", data := .seq #[] }).update s.heap.objs.size (Obj.mapSeq (fun _ => (#[] : Array Value)))).get? b = some o := fun b o e => k1 b o (Nat.ne_of_lt (lt e)) (Heap.get?_push_of_some _ e)
  have sz1 : s.heap.objs.size < ((s.heap.push { cls := .type "list", data := .seq #[] }).update s.heap.objs.size (Obj.mapSeq (fun _ => (#[] : Array Value)))).objs.size := Heap.lt_size g1
  generalize (s.heap.push { cls := .type "list", data := .seq #[] }).update s.heap.objs.size (Obj.mapSeq (fun _ => (#[] : Array Value))) = h1 at g1 st1 up1 sz1 ⊢
  have hT : ∀ h : Heap, h.get? z = some { cls := .type "zip", dict := none, data := .fields #[.none, .bool false, .bool false, .ref TI, .ref TO], slots := #[] } → ∀ tk, Shared.TypeIs { s with heap := h, toks := tk } (.ref z) "zip" := fun h e tk => ⟨_, e, rfl⟩
  refine wpAny_bind (wpAny_letGo ?_)
  unfold Builtin.List.listExtendWith
  refine wpAny_bind (wpAny_typeOf (T := "zip") (hT _ (up1 _ _ e0) _) ?_)
  have n1 : Builtin.List.listSameRef (.ref s.heap.objs.size) (.ref z) = false := by simp [Builtin.List.listSameRef, far.z.symm]
  have n2 : (Value.type "zip" == Value.type "list") = false := by decide
  have n3 : (Value.type "zip" == Value.type "tuple") = false := by decide
  simp only [n1, n2, n3, Bool.or_false, Bool.false_eq_true, if_false]
  refine wpAny_bind (wpAny_pyIter_zip (up1 _ _ e0) ?_)
  refine wpAny_bind (wpAny_holding (zip_hint (hT _ (up1 _ _ e0) _) ?_))
  have go : ∀ (h : Heap) (c tk : Nat), ZSt h z TI TO i1 i2 l1 l2 s.heap.objs.size xs ys 0 → (∀ b o, b ≠ s.heap.objs.size → s.heap.get? b = some o → h.get? b = some o) → h.get? s.heap.objs.size = some { cls := .type "list", data := .seq #[] c } → s.heap.objs.size < h.objs.size →
      codeAny (model prog w) A.in1 (.builtin "list.extend.loop" ⟨[.ref s.heap.objs.size, .ref z, .none], []⟩) (wants (fun r s₂ => r = Value.none ∧ Q (Value.ref s.heap.objs.size) s₂) E) { s with heap := h, toks := tk } := by
    intro h c tk st k g lh
    refine zl_loop (A := A.in1) (s := s) (h₁ := s.heap) hh D far hn hz .none (Nat.le_of_lt (lt e0)) (Nat.le_of_lt (lt e2)) (Nat.le_of_lt li1) (Nat.le_of_lt li2) (Nat.le_refl _) (fun h' tk' acc c' as k' gS hl g' hacc => ?_) n 0 h tk c #[] [] (Nat.sub_zero _) (Nat.zero_le _) st (fun b o c1 _ _ _ _ e => k b o c1 e) g rfl rfl
      ⟨List.Pairwise.nil, (fun _ m => nomatch m), (fun j a hj => by simp at hj)⟩ lh
    exact ⟨rfl, hQ h' tk' acc c' as (fun b o c2 c3 c4 c5 e => k' b o (Nat.ne_of_lt (lt e)) c2 c3 c4 c5 e) gS hl g' hacc⟩
  refine wpAny_ite_split (fun _ => ?_) (fun c => absurd rfl c)
  refine wpAny_bind (wpAny_rule ?_)
  refine wpAny_bind ?_
  show wpAny _ _ (updateSeq s.heap.objs.size (·.push .none) >>= fun _ => updateSeq s.heap.objs.size (·.pop)) _ _ _
  refine wpAny_bind (wpAny_updateSeq g1 rfl ?_)
  have g2 := Heap.get?_update_self (Obj.mapSeq (·.push Value.none)) g1 rfl
  refine wpAny_updateSeq (hz := by seq_fits) g2 rfl ?_
  have g3 := Heap.get?_update_self (Obj.mapSeq (·.pop)) g2 rfl
  have k2 : ∀ b o, b ≠ s.heap.objs.size → h1.get? b = some o → ((h1.update s.heap.objs.size (Obj.mapSeq (·.push Value.none))).update s.heap.objs.size (Obj.mapSeq (·.pop))).get? b = some o :=
    fun c u hc e => (Heap.get?_update_other _ _ (Ne.symm hc)).trans ((Heap.get?_update_other _ _ (Ne.symm hc)).trans e)
  refine wpAny_pure ⟨plainId_quiet PySem.F.plain_extend_loop _, go _ _ _ (st1.keep far k2) (fun b o hb e => k2 b o hb (up1 b o e)) g3 (Heap.lt_size g3)⟩
end
/-! ### the same over what is tracked -/
def putZ : Hp → List Addr → List (V × V) → Hp
  | H, a :: as, p :: ps => putZ (upd H a (.tup [p.1, p.2])) as ps
  | H, _, _ => H
theorem putZ_off {b : Addr} : ∀ (as : List Addr) (ps : List (V × V)) (H : Hp), b ∉ as → putZ H as ps b = H b
  | [], _, _, _ => rfl
  | _ :: _, [], _, _ => rfl
  | a :: as, p :: ps, H, h => by
    show putZ (upd H a (.tup [p.1, p.2])) as ps b = H b
    rw [putZ_off as ps _ (fun z => h (List.mem_cons_of_mem _ z)), upd_ne (fun z => h (by rw [z]; exact List.mem_cons_self))]
theorem putZ_at : ∀ (as : List Addr) (ps : List (V × V)) (H : Hp), as.length = ps.length → as.Nodup → Paired (fun (t : Addr) (p : V × V) => putZ H as ps t = some (.tup [p.1, p.2])) as ps
  | [], [], _, _, _ => .nil
  | [], _ :: _, _, h, _ => by cases h
  | _ :: _, [], _, h, _ => by cases h
  | a :: as, p :: ps, H, h, hn => by
    have hn2 := List.nodup_cons.mp hn
    refine .cons ?_ (putZ_at as ps (upd H a (.tup [p.1, p.2])) (Nat.succ.inj h) hn2.2)
    show putZ (upd H a (.tup [p.1, p.2])) as ps a = some (.tup [p.1, p.2])
    rw [putZ_off as ps _ hn2.1, upd_same]
theorem vals_at {xs : List V} {us : List Value} (h : Vals xs us) : ∀ {i : Nat} {x : V}, xs[i]? = some x → ∃ u, us[i]? = some u ∧ RelV x u := fun {i x} e => LiI.paired_get h e
def rListZip (K : PySem.W.Frag) : List V → Hp → VK → Prop := fun vs H Q => ∃ (a b : Addr) (xs ys : List V), vs = [.ref a, .ref b] ∧ SqL K H a xs ∧ SqL K H b ys ∧
  ∀ (H' : Hp) (p : Addr) (ts : List Addr), Same H H' → H p = none → (∀ t ∈ ts, H t = none) → H' p = some (.lst (ts.map V.ref)) → Paired (fun (t : Addr) (q : V × V) => H' t = some (.tup [q.1, q.2])) ts (xs.zip ys) → Q (.ref p) H'
def tListZip (K : PySem.W.Frag) (ta : TA) : TE := fun σ H Q => ta σ H fun vs H1 => rListZip K vs H1 Q
section
variable {X : Cx}
theorem zip_laid {pins : List (Addr × Obj)} {σ : L2.St} {H : Hp} {s : Shared} {h' : Heap} {tk : Nat} {xs ys : List V} {us ws : List Value} {S : Addr} {acc : Array Value} {c : Nat} {as : List Addr} (I : Inv X pins σ H s) (rx : Vals xs us) (ry : Vals ys ws) (hlS : s.heap.objs.size ≤ S)
    (hz : xs.length ≤ sizeLine) (hk : ∀ b o, s.heap.get? b = some o → h'.get? b = some o) (hS : h'.get? S = some { cls := .type "list", dict := none, data := .seq acc c, slots := #[] }) (hl : as.length = min xs.length ys.length) (g : ZG us.toArray ws.toArray S h' as) (hacc : acc.toList = as.map Value.ref) :
    ∃ H' : Hp, Same H H' ∧ H S = none ∧ (∀ t ∈ as, H t = none) ∧ H' S = some (.lst (as.map V.ref)) ∧ Paired (fun (t : Addr) (q : V × V) => H' t = some (.tup [q.1, q.2])) as (xs.zip ys) ∧ Inv X pins σ H' { s with heap := h', toks := tk } := by
  have lz : as.length = (xs.zip ys).length := by rw [List.length_zip]; exact hl
  have nS : S ∉ as := fun z => Nat.lt_irrefl _ (g.hi _ z)
  have nd : as.Nodup := List.Pairwise.imp (fun {a b} (h : a < b) => Nat.ne_of_lt h) g.up
  have newA : ∀ t ∈ as, H t = none := fun t ht => I.hok.fresh (Nat.le_of_lt (Nat.lt_of_le_of_lt hlS (g.hi t ht)))
  have newS : H S = none := I.hok.fresh hlS
  have atP := putZ_at as (xs.zip ys) (upd H S (.lst (as.map V.ref))) lz nd
  have off : ∀ b, b ∉ as → b ≠ S → putZ (upd H S (.lst (as.map V.ref))) as (xs.zip ys) b = H b := fun b h1 h2 => by rw [putZ_off as _ _ h1, upd_ne h2]
  have low : ∀ b o, s.heap.get? b = some o → b ∉ as ∧ b ≠ S := fun b o e => ⟨fun z => absurd (Heap.lt_size e) (Nat.not_lt.mpr (Nat.le_of_lt (Nat.lt_of_le_of_lt hlS (g.hi b z)))), Nat.ne_of_lt (Nat.lt_of_lt_of_le (Heap.lt_size e) hlS)⟩
  have kp : Same H (putZ (upd H S (.lst (as.map V.ref))) as (xs.zip ys)) := fun b u e => by
    rw [off b (fun z => by rw [newA b z] at e; cases e) (fun z => by rw [z, newS] at e; cases e)]
    exact e
  have eS : putZ (upd H S (.lst (as.map V.ref))) as (xs.zip ys) S = some (.lst (as.map V.ref)) := by rw [putZ_off as _ _ nS, upd_same]
  refine ⟨putZ (upd H S (.lst (as.map V.ref))) as (xs.zip ys), kp, newS, newA, eS, atP, ?_⟩
  refine I.call' (ch := []) rfl ⟨fun c u e _ _ _ => hk c u e, fun c u e _ _ _ => ⟨u.slots, hk c u e⟩, fun b o q n _ => ?_, fun c u e _ => ⟨u, hk c u e⟩, fun c _ e => kp c _ e, fun c _ _ e => kp c _ e, fun c _ e => ⟨#[], by rw [kp c _ e]; simp⟩⟩ (fun b u q => ?_) I.bare fun b z => by simp at z
  · obtain ⟨z1, z2⟩ := low b o q
    rw [off b z1 z2]
    exact n
  · by_cases hb : b ∈ as
    · obtain ⟨j, pk, e1, e2, e3⟩ := LiI.paired_ix atP hb
      rw [e3] at q
      cases q
      obtain ⟨u, v, f1, f2, f3⟩ := g.at' j b e1
      rw [List.getElem?_zip_eq_some] at e2
      obtain ⟨u', g1, r1⟩ := vals_at rx e2.1
      obtain ⟨v', g2, r2⟩ := vals_at ry e2.2
      have eu : u' = u := by
        rw [List.getElem?_toArray] at f1
        exact Option.some.inj (g1.symm.trans f1)
      have ev : v' = v := by
        rw [List.getElem?_toArray] at f2
        exact Option.some.inj (g2.symm.trans f2)
      subst eu
      subst ev
      exact ⟨by show 2 ≤ sizeLine; decide, [u', v'], .cons r1 (.cons r2 .nil), ⟨_, f3, rfl, _, rfl⟩⟩
    · by_cases hb2 : b = S
      · rw [hb2] at q ⊢
        rw [eS] at q
        cases q
        refine ⟨by rw [List.length_map, hl]; omega, acc.toList, c, by rw [hacc]; exact LiI.vals_refs as, ?_⟩
        rw [Array.toArray_toList]
        exact hS
      · rw [off b hb hb2] at q
        exact (I.hok b u q).stay (fun c v _ e => hk c v e) (fun c e => kp c _ e) fun c _ e => kp c _ e
/-- list(zip(a, b)) -/
theorem pe_listZip {e e2 : Expr} {ta : TA} {p p2 pos pos2 : Pos} (hc : X.calm = true) (hg : Gl X "list") (hm : X.mg "list" = none) (hv : bootBuiltins "list" = some (.type "list")) (hg2 : Gl X "zip") (hm2 : X.mg "zip" = none) (ha : PA X [e, e2] ta)
    (hs : starEach [e, e2] X.env = (false, eval e X.env) :: starEach [e2] X.env := by rfl) (hpl : (backTo pos2 (starEach [e2] X.env)).any (·.1) = false := by rfl)
    (hs2 : starEach [.Call (.Name "zip" p2) [e, e2] [] pos2] X.env = (false, eval (.Call (.Name "zip" p2) [e, e2] [] pos2) X.env) :: starEach [] X.env := by rfl) :
    PE X (.Call (.Name "list" p) [.Call (.Name "zip" p2) [e, e2] [] pos2] [] pos) (tListZip X.K ta) := by
  refine ⟨fun pins s σ H Q I h => ?_⟩
  refine Call_ (ld_blt I hg hm hv ?_)
  refine PyProof.Rows.callWith_type1 (PyProof.Rows.args_cons ?_ hs2) hs2 rfl
  refine Call_ (ld_blt I hg2 hm2 PyProof.Rows.boot_zip (PyProof.Rows.callWith_type1 (thn (ha.run pos2 pins s σ H _ I h) fun us s1 ⟨vs, H1, I1, r1, q1⟩ => ?_) hs hpl))
  obtain ⟨a, b, xs, ys, ex, hqx, hqy, q⟩ := q1
  subst ex
  cases r1 with
  | cons r rr =>
    cases rr with
    | cons r' rr =>
      cases rr
      cases r
      cases r'
      obtain ⟨its, rv, p1, hz1⟩ := I1.list hqx
      obtain ⟨its2, rv2, p2', hz2⟩ := I1.list hqy
      have la : a < s1.heap.objs.size := p1.lt
      have lb : b < s1.heap.objs.size := p2'.lt
      have lx : its.toArray.size = xs.length := by rw [List.size_toArray, ← rv.length]
      have ly : its2.toArray.size = ys.length := by rw [List.size_toArray, ← rv2.length]
      refine call_zip_2 p1.isList p2'.isList fun h' hz hTI hTO h1 h2 hsz hk => ?_
      refine PyProof.Rows.args_nil ?_
      have far : ∀ {b : Addr} {o : Obj}, s1.heap.get? b = some o → ∀ k, b ≠ s1.heap.objs.size + k := fun e k => Nat.ne_of_lt (Nat.lt_of_lt_of_le (Heap.lt_size e) (Nat.le_add_right _ _))
      refine zl_call (s := { s1 with heap := h' }) (n := min its.toArray.size its2.toArray.size) (I1.ok.hd hc) (ktu_apart s1.heap.objs.size a b la lb) rfl (by rw [lx]; omega) hz hTI hTO h1 h2 (p1.isList.at fun o => hk _ o) (p2'.isList.at fun o => hk _ o) fun h2' tk acc c as k gS hl g hacc => ?_
      have hall : ∀ b o, s1.heap.get? b = some o → h2'.get? b = some o := fun b o e => k b o (far e 4) (far e 3) (far e 0) (far e 1) (hk b o e)
      obtain ⟨H', k1, k2, k3, k4, k5, J⟩ := zip_laid (tk := tk) I1 rv rv2 (S := h'.objs.size) (by rw [hsz]; exact Nat.le_add_right _ _) hz1 hall gS (by rw [hl, lx, ly]) g hacc
      exact ⟨.ref _, H', J, rfl, q H' _ as k1 k2 k3 k4 k5⟩
/-- list(d.values()), d keyed by tuples -/
def tListValsT (td : TE) : TE := fun σ H Q => td σ H fun x H1 => ∃ (d : Addr) (kvs : List (List L2.Key × V)), x = .ref d ∧ H1 d = some (.dT kvs) ∧ ∀ p, H1 p = none → Q (.ref p) (upd H1 p (.lst (kvs.map (·.2))))
theorem pe_listValsT {e : Expr} {td : TE} {p pos apos cpos : Pos} (hc : X.calm = true) (he : PE X e td) (hg : Gl X "list") (hm : X.mg "list" = none) (hv : bootBuiltins "list" = some (.type "list"))
    (hbase : attributeBase e "values" X.env (eval e X.env) = eval e X.env := by rfl) (hline : (apos.endLine == cpos.line) = true := by rfl)
    (hs : starEach [.Call (.Attribute e "values" apos) [] [] cpos] X.env = (false, eval (.Call (.Attribute e "values" apos) [] [] cpos) X.env) :: starEach [] X.env := by rfl) :
    PE X (.Call (.Name "list" p) [.Call (.Attribute e "values" apos) [] [] cpos] [] pos) (tListValsT td) := by
  refine ⟨fun pins s σ H Q I h => ?_⟩
  refine Call_ (ld_blt I hg hm hv ?_)
  refine PyProof.Rows.callWith_type1 (PyProof.Rows.args_cons ?_ hs) hs rfl
  refine wpAny_Call_method (T := "dict") (id := "dict.values") hbase rfl hline F.plainAttrs_dict F.slot_dict_values F.type_dict_values (thn (he.run pins s σ H _ I h) fun u s1 ⟨x, H1, I1, rx, d, kvs, ex, hd, q⟩ => ?_)
  subst ex
  obtain rfl : u = Value.ref d := rx
  obtain ⟨hz, hsys, ks, pr, o, es, ep, ho, hx, hdt, hes, nd⟩ := (show ObjOk X.prog X.w H1 s1.heap d (.dT kvs) from I1.hok d _ hd)
  have raw : s1.heap.DictRaw d es ep := ⟨o, ho, hx, hdt⟩
  have le1 : es.size = ks.length := by rw [← Array.length_toList, hes, List.length_map]
  have le2 : kvs.length = ks.length := Paired.length pr
  refine ⟨raw.typeIs, (fun b q => by cases q; exact ⟨o, ho, hx.2.1⟩), ?_⟩
  show wpAny _ _ (callWith cpos (.builtin "dict.values") [.ref d] [] []) _ X.xe s1
  refine method_meetsIn F.slot_dict_values F.entry_dict_values rfl (PySem.evalArgs_none ⟨rfl, raw.typeIs, F.args_dict_values_1 _, _, meets_dict_values_raw d hsys, ⟨es, ep, raw⟩, ?_⟩)
  refine PyProof.Rows.args_nil ?_
  have I2 : Inv X pins σ H1 { s1 with heap := s1.heap.push { cls := .type "dict_values", data := .fields #[.ref d] } } := I1.kept (t' := s1.toks) fun b ob q => Heap.get?_push_of_some _ q
  refine PySem.W.kdl_call (KdlSrc.rawValues (es := es) (ep := ep) (d := d)) (I1.ok.hd hc) ⟨⟨_, Heap.get?_push_size _ rfl, rfl, rfl⟩, raw.push _⟩ (by omega) fun h' tk acc c k gS it => ?_
  have lacc : acc.toList.length = ks.length := by rw [Array.length_toList, it.1]; exact le1
  have ea : acc.toList = ks.map fun x => x.2.2 := by
    apply List.ext_getElem?
    intro j
    rw [List.getElem?_map]
    by_cases hj : j < ks.length
    · have hj2 : j < acc.size := by rw [it.1]; omega
      obtain ⟨hi, ev⟩ := it.2 j _ (Array.getElem?_eq_getElem hj2)
      have e3 : es.toList[j]? = (ks.map (entryOfKey (tupleKind (mixKind X.prog X.w))))[j]? := by rw [hes]
      rw [List.getElem?_map, List.getElem?_eq_getElem hj, Array.getElem?_toList, Array.getElem?_eq_getElem hi] at e3
      have e4 : es[j] = entryOfKey (tupleKind (mixKind X.prog X.w)) ks[j] := Option.some.inj e3
      rw [Array.getElem?_toList, Array.getElem?_eq_getElem hj2, ev, e4, List.getElem?_eq_getElem hj]
      rfl
    · rw [List.getElem?_eq_none (by omega), List.getElem?_eq_none (by omega)]
      rfl
  have rv : Vals (kvs.map (·.2)) acc.toList := by
    rw [ea]
    clear ea lacc le1 le2 hes gS it hz hd q nd
    induction pr with
    | nil => exact .nil
    | cons a t ih => exact .cons a.2.2 ih
  have hz2 : (kvs.map (·.2)).length ≤ sizeLine := by rw [List.length_map]; exact hz
  refine ⟨.ref _, _, I2.laid (t' := tk) (o := .lst (kvs.map (·.2))) (fun b o e => k b o e) (Nat.le_refl _) ?_, rfl, q _ (I2.hok.fresh (Nat.le_refl _))⟩
  exact ⟨hz2, acc.toList, c, rv, by rw [Array.toArray_toList]; exact gS⟩
end
end Gm

set_option maxRecDepth 100000
set_option maxHeartbeats 4000000
/-! the search's things in memory -/
namespace Gm
open PySem PySem.Spec PyProof.Rows L2
section
variable {K : PySem.W.Frag} {H : Hp}
/-- all but l stays -/
def But (l : Addr) (H H' : Hp) : Prop := ∀ b o, b ≠ l → H b = some o → H' b = some o
theorem But.refl {l : Addr} : But l H H := fun _ _ _ h => h
theorem But.trans {l : Addr} {H H1 H2 : Hp} (a : But l H H1) (b : But l H1 H2) : But l H H2 := fun c o n h => b c o n (a c o n h)
theorem But.of {l : Addr} {H H' : Hp} (s : Same H H') : But l H H' := fun b o _ h => s b o h
theorem But.upd' {l : Addr} {o : HO} : But l H (upd H l o) := fun b u n h => by rw [upd_ne n]; exact h
theorem But.ts {l : Addr} {H H' : Hp} {xs : List V} (h : H l = some (.lst xs)) (b : But l H H') : TS K H H' := fun a zs q => by
  have n : ∀ {o : HO}, H a = some o → o ≠ .lst xs → a ≠ l := fun e d z => by
    rw [z, h] at e
    exact d (Option.some.inj e).symm
  rcases q with (q | ⟨o, q⟩) | q
  · exact .inl (.inl (b _ _ (n q (fun z => nomatch z)) q))
  · exact .inl (.inr ⟨o, b _ _ (n q (fun z => nomatch z)) q⟩)
  · exact .inr q
theorem But.same {l : Addr} {H H1 H' : Hp} (s : Same H H1) (n : H l = none) (b : But l H1 H') : Same H H' := fun a o h => b a o (ne_of_none h n) (s a o h)
def RAts (K : PySem.W.Frag) (H : Hp) : List (List Th) → List V → Prop := Paired (RAt K H)
theorem RAts.mono {H H' : Hp} (e : TS K H H') {L : List (List Th)} {vs : List V} (h : RAts K H L vs) : RAts K H' L vs := Paired.mapP h fun _ _ z => z.mono e
theorem RAts.dp : ∀ {L : List (List Th)} {vs : List V}, RAts K H L vs → DpAll K H vs (L.map rpd)
  | _, _, .nil => .nil
  | _, _, .cons h t => .cons h.dp (RAts.dp t)
theorem RAt.lay {r : List Th} {v : V} (h : RAt K H r v) : (rpd r).canLay0 = true := by
  obtain ⟨b, vs, rfl, q, t⟩ := h
  exact lay_tup t.lay
theorem RAts.lay : ∀ {L : List (List Th)} {vs : List V}, RAts K H L vs → PyData.canLayAll0 (L.map rpd) = true
  | _, _, .nil => lay_nil
  | _, _, .cons h t => lay_cons h.lay (RAts.lay t)
theorem rpd_depth {n : Nat} {r : List Th} (h : gd n r) : (rpd r).depth ≤ 1 + n := by
  have h1 := tpds_depth h
  simp only [rpd, PyData.depth]
  omega
theorem rpds_depth {n : Nat} : ∀ {L : List (List Th)}, (∀ r ∈ L, gd n r) → PyData.depthAll (L.map rpd) ≤ 1 + n
  | [], _ => by simp [PyData.depthAll]
  | s :: L, h => by
    have h1 := rpd_depth (h s List.mem_cons_self)
    have h2 := rpds_depth (L := L) fun u hu => h u (List.mem_cons_of_mem _ hu)
    simp only [List.map_cons, PyData.depthAll]
    omega
theorem RAt.shaped {r : List Th} {v : V} (h : RAt K H r v) (g : gd 50 r) : SeqAt.shaped (rpd r) = true := shaped_of h.lay (Nat.le_trans (rpd_depth g) (by decide))
theorem RAts.shaped {L : List (List Th)} {vs : List V} (h : RAts K H L vs) (g : ∀ r ∈ L, gd 50 r) : SeqAt.shaped (.list (L.map rpd)) = true := shaped_of (lay_list h.lay) (Nat.le_trans (list_depth (rpds_depth g)) (by decide))
theorem rpd_refl {r : List Th} {v : V} (h : RAt K H r v) : PyData.eqv (rpd r) (rpd r) = true := SeqAt.eqv_refl _ h.lay
theorem any_iff {L : List (List Th)} {r : List Th} {v : V} (h : RAt K H r v) : ((L.map rpd).any fun z => PyData.eqv z (rpd r)) = true ↔ r ∈ L := by
  rw [List.any_eq_true]
  constructor
  · rintro ⟨x, hx, e⟩
    obtain ⟨r', hr', rfl⟩ := List.mem_map.mp hx
    rw [← rpd_inj e]
    exact hr'
  · intro hm
    exact ⟨rpd r, List.mem_map.mpr ⟨r, hm, rfl⟩, rpd_refl h⟩
end
def rLn (K : PySem.W.Frag) : List V → Hp → VK → Prop := fun xs H Q => ∃ p ys, xs = [.ref p] ∧ (SqL K H p ys ∨ SqT K H p ys) ∧ Q (.int ys.length) H
/-! ### a text some times -/
def srep (z : Str) (k : Nat) : Str := ⟨((List.replicate k z.cps.toList).flatten).toArray⟩
theorem fold_rep (a : Array Nat) : ∀ (k : Nat) (acc : Array Nat), (List.replicate k a).foldl (· ++ ·) acc = acc ++ ((List.replicate k a.toList).flatten).toArray
  | 0, acc => by simp
  | k + 1, acc => by
    rw [List.replicate_succ, List.replicate_succ, List.foldl_cons, fold_rep a k, List.flatten_cons]
    apply Array.ext'
    simp
theorem srep_len (z : Str) (k : Nat) : (srep z k).length = k * z.length := by
  unfold srep Str.length
  rw [List.size_toArray]
  induction k with
  | zero => simp
  | succ k ih =>
    rw [List.replicate_succ, List.flatten_cons, List.length_append, ih, Array.length_toList, Nat.succ_mul]
    omega
theorem op_mul_str {X : Cx} : OpR X (binaryOp .Mult) (fun x y H Q => ∃ (z : Str) (k : Nat), x = .str z ∧ y = .int (k : Int) ∧ k ≤ 1000 ∧ z.length ≤ 10000 ∧ Q (.str (srep z k)) H) := by
  intro pins s σ H x y v u Q I rx ry h
  obtain ⟨z, k, rfl, rfl, hk, hz, q⟩ := h
  obtain ⟨t, rfl⟩ := rx
  obtain ⟨t', rfl⟩ := ry
  have big : k * z.length ≤ 10000000 := Nat.le_trans (Nat.mul_le_mul hk hz) (by decide)
  have e0 : (k : Int).toNat = k := Int.toNat_natCast k
  refine P.mul_str ?_ (fun h1 h2 => ?_) (fun h1 h2 => ?_) ?_
  · have h1 : ¬ (k : Int) < -(2 ^ 63 : Int) := by omega
    have h2 : ¬ (k : Int) ≥ 2 ^ 63 := by omega
    rw [decide_eq_false h1, decide_eq_false h2]
    rfl
  · have hpos : (0 : Int) < (k : Int) := by omega
    have hk2 : (k : Int) ≤ 1000 := by omega
    have hz2 : (z.length : Int) ≤ 10000 := by omega
    have h3 : (10000 : Int) ≤ (2 ^ 63 - 1) / (k : Int) := by
      rw [Int.le_ediv_iff_mul_le hpos]
      omega
    omega
  · rw [e0]
    unfold PySem.Builtin.Str.tooLong
    rw [decide_eq_false]
    rw [sizeLine_eq, Nat.mul_comm]
    omega
  · have es : ∀ {y : Str}, y = srep z k → Q (.str (srep z k)) H → ∀ tk : Tok, EP X pins σ Q (.str y tk) { s with toks := s.toks + 1 } := fun {y} e q tk => ⟨.str (srep z k), H, I.tok _, ⟨tk, by rw [e]⟩, q⟩
    by_cases c1 : (k : Int) < 1
    · rw [if_pos c1]
      have hk0 : k = 0 := by omega
      subst hk0
      exact ⟨by decide, es rfl q _⟩
    · rw [if_neg c1]
      by_cases c2 : ((k : Int) == 1 || z.length == 0) = true
      · rw [if_pos c2]
        have e : z = srep z k := by
          rcases Bool.or_eq_true_iff.mp c2 with c | c
          · have : k = 1 := by have := eq_of_beq c; omega
            subst this
            unfold srep
            simp
          · have h0 : z.length = 0 := eq_of_beq c
            have h1 := srep_len z k
            rw [h0, Nat.mul_zero] at h1
            obtain ⟨⟨l⟩⟩ := z
            have hl : l = [] := by simpa [Str.length] using h0
            subst hl
            unfold srep
            simp
        exact ⟨.str (srep z k), H, I, ⟨t, by rw [← e]⟩, q⟩
      · rw [if_neg c2, e0]
        refine ⟨?_, es ?_ q _⟩
        · rw [fold_rep]
          have e : (⟨#[] ++ ((List.replicate k z.cps.toList).flatten).toArray⟩ : Str) = srep z k := by
            unfold srep
            simp
          rw [e, srep_len]
          rw [sizeLine_eq]
          omega
        · rw [fold_rep]
          unfold srep
          simp
theorem seq_if {c : TT} {x y u : L2.TS} {D : Ends} {σ : L2.St} {H : Hp} (h : tIfS c x y { D with nx := u D } σ H) : tSeq (tIfS c x y) u D σ H := h
end Gm

set_option maxRecDepth 100000
set_option maxHeartbeats 4000000
/-! which texts a pattern takes, and by which way -/
namespace Gm
open PySem PySem.Spec PyProof.Rows L2
theorem Walk.app {z : List Nat} {a b c : Sta} {w w' : List Nat} (h : Walk z a w b) (h' : Walk z b w' c) : Walk z a (w ++ w') c := by
  induction h with
  | nil => exact h'
  | one e _ ih => exact .one e (ih h')
  | left e _ ih => exact .left e (ih h')
  | right e _ ih => exact .right e (ih h')
/-- the pattern takes y by the way ws, whatever stands round it -/
def TakesBy (p : Pat) (y ws : List Nat) : Prop := ∀ (u v : List Nat) (k : List Th), Walk (u ++ (y ++ v)) (.pat p :: k, u.length) ws (k, u.length + y.length)
theorem tb_none : TakesBy .none [] [] := fun u v k => .one (a := (k, u.length)) rfl .nil
theorem tb_sign (c : Nat) : TakesBy (.sign c) [c] [] := fun u v k => by
  refine .one (a := (k, u.length + 1)) ?_ .nil
  show (if (u ++ ([c] ++ v))[u.length]? = some c then [(k, u.length + 1)] else [] : List Sta) = _
  rw [if_pos (by simp)]
theorem tb_any (c : Nat) : TakesBy .any [c] [] := fun u v k => by
  refine .one (a := (k, u.length + 1)) ?_ .nil
  show (if u.length < (u ++ ([c] ++ v)).length then [(k, u.length + 1)] else [] : List Sta) = _
  rw [if_pos (by simp)]
theorem tb_row {p q : Pat} {y y' ws ws' : List Nat} (h : TakesBy p y ws) (h' : TakesBy q y' ws') : TakesBy (.row p q) (y ++ y') (ws ++ ws') := fun u v k => by
  have h1 := h u (y' ++ v) (.pat q :: k)
  have h2 := h' (u ++ y) v k
  have e : u ++ y ++ (y' ++ v) = u ++ (y ++ (y' ++ v)) := by simp
  rw [e, List.length_append] at h2
  have e2 : u ++ (y ++ y' ++ v) = u ++ (y ++ (y' ++ v)) := by simp
  rw [e2]
  refine .one (a := (.pat p :: .pat q :: k, u.length)) rfl (h1.app ?_)
  rw [List.length_append, ← Nat.add_assoc]
  exact h2
theorem tb_orL {p q : Pat} {y ws : List Nat} (h : TakesBy p y ws) : TakesBy (.or p q) y (0 :: ws) := fun u v k => .left (a := (.pat p :: k, u.length)) (b := (.pat q :: k, u.length)) rfl (h u v k)
theorem tb_orR {p q : Pat} {y ws : List Nat} (h : TakesBy q y ws) : TakesBy (.or p q) y (1 :: ws) := fun u v k => .right (a := (.pat p :: k, u.length)) (b := (.pat q :: k, u.length)) rfl (h u v k)
theorem tb_group {n : Int} {p : Pat} {y ws : List Nat} (h : TakesBy p y ws) : TakesBy (.group n p) y ws := fun u v k => by
  have h1 := (h u v (.close n :: k)).app (.one (a := (k, u.length + y.length)) rfl .nil)
  rw [List.append_nil] at h1
  exact .one (a := (.pat p :: .close n :: k, u.length)) rfl h1
theorem tb_more0 (p : Pat) : TakesBy (.more p) [] [1] := fun u v k => .right (a := (.pat p :: .pat (.more p) :: k, u.length)) (b := (k, u.length)) rfl .nil
theorem tb_less0 (p : Pat) : TakesBy (.less p) [] [0] := fun u v k => .left (a := (k, u.length)) (b := (.pat p :: .pat (.less p) :: k, u.length)) rfl .nil
theorem tb_more {p : Pat} {y y' ws ws' : List Nat} (h : TakesBy p y ws) (h' : TakesBy (.more p) y' ws') : TakesBy (.more p) (y ++ y') (0 :: (ws ++ ws')) := fun u v k => by
  have h1 := h u (y' ++ v) (.pat (.more p) :: k)
  have h2 := h' (u ++ y) v k
  have e : u ++ y ++ (y' ++ v) = u ++ (y ++ (y' ++ v)) := by simp
  rw [e, List.length_append] at h2
  have e2 : u ++ (y ++ y' ++ v) = u ++ (y ++ (y' ++ v)) := by simp
  rw [e2]
  refine .left (a := (.pat p :: .pat (.more p) :: k, u.length)) (b := (k, u.length)) rfl (h1.app ?_)
  rw [List.length_append, ← Nat.add_assoc]
  exact h2
theorem tb_less {p : Pat} {y y' ws ws' : List Nat} (h : TakesBy p y ws) (h' : TakesBy (.less p) y' ws') : TakesBy (.less p) (y ++ y') (1 :: (ws ++ ws')) := fun u v k => by
  have h1 := h u (y' ++ v) (.pat (.less p) :: k)
  have h2 := h' (u ++ y) v k
  have e : u ++ y ++ (y' ++ v) = u ++ (y ++ (y' ++ v)) := by simp
  rw [e, List.length_append] at h2
  have e2 : u ++ (y ++ y' ++ v) = u ++ (y ++ (y' ++ v)) := by simp
  rw [e2]
  refine .right (a := (k, u.length)) (b := (.pat p :: .pat (.less p) :: k, u.length)) rfl (h1.app ?_)
  rw [List.length_append, ← Nat.add_assoc]
  exact h2
theorem TakesBy.walk {p : Pat} {y ws : List Nat} (h : TakesBy p y ws) : Walk y ([.pat p], 0) ws (endS y) := by
  have := h [] [] []
  simp only [List.nil_append, List.append_nil, List.length_nil, Nat.zero_add] at this
  exact this
/-- it takes y by some way -/
def Takes (p : Pat) (y : List Nat) : Prop := ∃ ws, TakesBy p y ws
theorem Takes.reach {p : Pat} {y : List Nat} (h : Takes p y) : Reach y ([.pat p], 0) := by
  obtain ⟨ws, h⟩ := h
  exact ⟨ws, h.walk⟩
theorem tk_row {p q : Pat} {y y' : List Nat} : Takes p y → Takes q y' → Takes (.row p q) (y ++ y')
  | ⟨_, h⟩, ⟨_, h'⟩ => ⟨_, tb_row h h'⟩
theorem tk_orL {p q : Pat} {y : List Nat} : Takes p y → Takes (.or p q) y
  | ⟨_, h⟩ => ⟨_, tb_orL h⟩
theorem tk_orR {p q : Pat} {y : List Nat} : Takes q y → Takes (.or p q) y
  | ⟨_, h⟩ => ⟨_, tb_orR h⟩
theorem tk_group {n : Int} {p : Pat} {y : List Nat} : Takes p y → Takes (.group n p) y
  | ⟨_, h⟩ => ⟨_, tb_group h⟩
theorem tk_more {p : Pat} {y : List Nat} (h : Takes p y) : ∀ k : Nat, Takes (.more p) ((List.replicate k y).flatten)
  | 0 => ⟨_, tb_more0 p⟩
  | k + 1 => by
    obtain ⟨ws, h1⟩ := h
    obtain ⟨ws', h2⟩ := tk_more ⟨ws, h1⟩ k
    rw [List.replicate_succ, List.flatten_cons]
    exact ⟨_, tb_more h1 h2⟩
theorem tk_less {p : Pat} {y : List Nat} (h : Takes p y) : ∀ k : Nat, Takes (.less p) ((List.replicate k y).flatten)
  | 0 => ⟨_, tb_less0 p⟩
  | k + 1 => by
    obtain ⟨ws, h1⟩ := h
    obtain ⟨ws', h2⟩ := tk_less ⟨ws, h1⟩ k
    rw [List.replicate_succ, List.flatten_cons]
    exact ⟨_, tb_less h1 h2⟩
/-! ### what has been made -/
theorem nums_append (A B : List Pat) : nums (A ++ B) = nums A ++ nums B := by
  unfold nums
  rw [List.filterMap_append]
theorem ns_row (p q : Pat) : nums (subs (.row p q)) = nums (subs p) ++ nums (subs q) := nums_append (subs p) (subs q)
theorem ns_or (p q : Pat) : nums (subs (.or p q)) = nums (subs p) ++ nums (subs q) := nums_append (subs p) (subs q)
theorem ns_more (p : Pat) : nums (subs (.more p)) = nums (subs p) := rfl
theorem ns_less (p : Pat) : nums (subs (.less p)) = nums (subs p) := rfl
theorem ns_group (n : Int) (p : Pat) : nums (subs (.group n p)) = n :: nums (subs p) := rfl
theorem good_of {p : Pat} (h1 : (nums (subs p)).Nodup) (h2 : nr p = true) : goodP p := ⟨h1, by rw [nr_iff, h2]; rfl⟩
end Gm

set_option maxRecDepth 100000
set_option maxHeartbeats 4000000
/-! small things that the laws of the search share -/
namespace Gm
open PySem PySem.Spec PyProof.Rows L2
theorem pickI {xs : List Int} {i : Int} (h0 : 0 ≤ i) (h1 : i < (xs.length : Int)) : ∃ e : Int, atI (xs.map V.int) i = some (.int e) := by
  obtain ⟨j, rfl⟩ : ∃ j : Nat, i = (j : Int) := ⟨_, (Int.toNat_of_nonneg h0).symm⟩
  have hj : j < xs.length := by omega
  exact ⟨xs[j], atI_nat (by rw [List.getElem?_map, List.getElem?_eq_getElem hj]; rfl)⟩
theorem tk_none : Takes .none [] := ⟨_, tb_none⟩
theorem tk_any (c : Nat) : Takes .any [c] := ⟨_, tb_any c⟩
theorem tk_sign (c : Nat) : Takes (.sign c) [c] := ⟨_, tb_sign c⟩
theorem str_app (x y : Str) : (x ++ y).cps.toList = x.cps.toList ++ y.cps.toList := by
  show (x.cps ++ y.cps).toList = _
  simp
theorem str_app_len (x y : Str) : (x ++ y).length = x.length + y.length := by
  show (x.cps ++ y.cps).size = _
  simp [Str.length]
def sumB {α : Type} (f : α → Nat) (ps : List α) : Nat := (ps.map f).sum
theorem sumB_snoc {α : Type} (f : α → Nat) (ps : List α) (p : α) : sumB f (ps ++ [p]) = sumB f ps + f p := by
  unfold sumB
  simp
theorem sumB_pos {α : Type} (f : α → Nat) (h : ∀ x, 0 < f x) (ps : List α) : ps.length ≤ sumB f ps := by
  induction ps with
  | nil => exact Nat.le_refl _
  | cons x ps ih =>
    unfold sumB at *
    rw [List.map_cons, List.sum_cons, List.length_cons]
    have := h x
    omega
def gn3 (ps : List (Pat × Str)) : List Int := ps.flatMap fun m => nums (subs m.1)
theorem gn3_snoc (ps : List (Pat × Str)) (p : Pat × Str) : gn3 (ps ++ [p]) = gn3 ps ++ nums (subs p.1) := by
  unfold gn3
  simp
/-- what is known of the pile after i deeds -/
structure Pile (i : Nat) (num : Int) (ps : List (Pat × Str)) : Prop where
  n0 : 0 ≤ num
  n1 : num ≤ 900 * (i : Int)
  zs : sumB (fun m => siz m.1) ps + ps.length ≤ 5 * i
  ds : sumB (fun m => dep m.1) ps ≤ 2 * i
  ls : sumB (fun m => m.2.length) ps ≤ 13 * i
  nd : (gn3 ps).Nodup
  rg : ∀ n ∈ gn3 ps, 0 < n ∧ n ≤ num
theorem Pile.nil : Pile 0 0 [] := ⟨Int.le_refl _, by omega, Nat.le_refl _, Nat.le_refl _, Nat.le_refl _, List.nodup_nil, fun n h => by cases h⟩
theorem Pile.leaf {i : Nat} {num : Int} {ps : List (Pat × Str)} {p : Pat} {y : Str} (h : Pile i num ps) (h1 : siz p = 1) (h2 : dep p = 1) (h3 : nums (subs p) = []) (h4 : y.length ≤ 1) : Pile (i + 1) num (ps ++ [(p, y)]) := by
  have a1 := h.n1
  have a2 := h.zs
  have a3 := h.ds
  have a4 := h.ls
  refine ⟨h.n0, by push_cast; omega, ?_, ?_, ?_, ?_, ?_⟩
  · rw [sumB_snoc, List.length_append, List.length_singleton]
    simp only
    omega
  · rw [sumB_snoc]
    simp only
    omega
  · rw [sumB_snoc]
    simp only
    omega
  · rw [gn3_snoc, h3, List.append_nil]
    exact h.nd
  · rw [gn3_snoc, h3, List.append_nil]
    exact h.rg
theorem Pile.two {i j : Nat} {num : Int} {ps : List (Pat × Str)} {m1 m2 : Pat × Str} {p : Pat} {y : Str} (h : Pile i num (ps ++ [m1] ++ [m2])) (hij : i ≤ j) (h1 : siz p = 1 + siz m1.1 + siz m2.1) (h2 : dep p = 1 + max (dep m1.1) (dep m2.1)) (h3 : nums (subs p) = nums (subs m1.1) ++ nums (subs m2.1)) (h4 : y.length ≤ m1.2.length + m2.2.length) : Pile j num (ps ++ [(p, y)]) := by
  have a1 := h.n1
  have a2 := h.zs
  have a3 := h.ds
  have a4 := h.ls
  have a5 := h.nd
  have a6 := h.rg
  rw [sumB_snoc, sumB_snoc] at a2 a3 a4
  rw [List.length_append, List.length_append, List.length_singleton, List.length_singleton] at a2
  rw [gn3_snoc, gn3_snoc, List.append_assoc] at a5 a6
  have d1 := dep_pos m1.1
  have d2 := dep_pos m2.1
  refine ⟨h.n0, by omega, ?_, ?_, ?_, ?_, ?_⟩
  · rw [sumB_snoc, List.length_append, List.length_singleton]
    simp only at *
    omega
  · rw [sumB_snoc]
    simp only at *
    omega
  · rw [sumB_snoc]
    simp only at *
    omega
  · rw [gn3_snoc, h3]
    exact a5
  · rw [gn3_snoc, h3]
    exact a6
theorem Pile.round {i : Nat} {num : Int} {ps : List (Pat × Str)} {m1 : Pat × Str} {p : Pat} {y : Str} (h : Pile i num (ps ++ [m1])) (h1 : siz p ≤ 3 + siz m1.1) (h2 : dep p ≤ 2 + dep m1.1) (h3 : nums (subs p) = nums (subs m1.1)) (h4 : y.length ≤ 13 + m1.2.length) : Pile (i + 1) num (ps ++ [(p, y)]) := by
  have a1 := h.n1
  have a2 := h.zs
  have a3 := h.ds
  have a4 := h.ls
  have a5 := h.nd
  have a6 := h.rg
  rw [sumB_snoc] at a2 a3 a4
  rw [List.length_append, List.length_singleton] at a2
  rw [gn3_snoc] at a5 a6
  refine ⟨h.n0, by push_cast; omega, ?_, ?_, ?_, ?_, ?_⟩
  · rw [sumB_snoc, List.length_append, List.length_singleton]
    simp only at *
    omega
  · rw [sumB_snoc]
    simp only at *
    omega
  · rw [sumB_snoc]
    simp only at *
    omega
  · rw [gn3_snoc, h3]
    exact a5
  · rw [gn3_snoc, h3]
    exact a6
theorem Pile.group {i : Nat} {num k : Int} {ps : List (Pat × Str)} {m1 : Pat × Str} (h : Pile i num (ps ++ [m1])) (hk : 0 < k) (hk2 : k ≤ 900) : Pile (i + 1) (num + k) (ps ++ [(.group (num + k) m1.1, m1.2)]) := by
  have a0 := h.n0
  have a1 := h.n1
  have a2 := h.zs
  have a3 := h.ds
  have a4 := h.ls
  have a5 := h.nd
  have a6 := h.rg
  rw [sumB_snoc] at a2 a3 a4
  rw [List.length_append, List.length_singleton] at a2
  rw [gn3_snoc] at a5 a6
  refine ⟨by omega, by push_cast; omega, ?_, ?_, ?_, ?_, ?_⟩
  · rw [sumB_snoc, List.length_append, List.length_singleton]
    simp only [siz_group] at *
    omega
  · rw [sumB_snoc]
    simp only [dep] at *
    omega
  · rw [sumB_snoc]
    simp only at *
    omega
  · rw [gn3_snoc, ns_group]
    have b := List.nodup_append.mp a5
    rw [List.nodup_append]
    refine ⟨b.1, List.nodup_cons.mpr ⟨fun hm => ?_, b.2.1⟩, fun u hu v hv e => ?_⟩
    · have := (a6 _ (List.mem_append_right _ hm)).2
      omega
    · rcases List.mem_cons.mp hv with rfl | hv
      · have := (a6 u (List.mem_append_left _ hu)).2
        omega
      · exact b.2.2 u hu v hv e
  · rw [gn3_snoc, ns_group]
    intro n hn
    rcases List.mem_append.mp hn with z | z
    · have := a6 n (List.mem_append_left _ z)
      exact ⟨this.1, by omega⟩
    · rcases List.mem_cons.mp z with rfl | z
      · exact ⟨by omega, Int.le_refl _⟩
      · have := a6 n (List.mem_append_right _ z)
        exact ⟨this.1, by omega⟩
/-- what is known of what has been made by n deeds -/
structure Made3 (n : Nat) (m : Pat × Str) : Prop where
  sz : siz m.1 ≤ 1 + 5 * n
  dp : dep m.1 ≤ 1 + 2 * n
  ln : m.2.length ≤ 13 * n
  nd : (nums (subs m.1)).Nodup
  rg : ∀ k ∈ nums (subs m.1), 0 < k ∧ k ≤ 900 * (n : Int)
theorem Pile.len {i : Nat} {num : Int} {ps : List (Pat × Str)} (h : Pile i num ps) (hi : i ≤ 41) : ps.length ≤ 205 ∧ ∀ m ∈ ps, m.2.length ≤ 600 := by
  have h1 := h.zs
  have h2 := h.ls
  refine ⟨by omega, fun m hm => ?_⟩
  have : m.2.length ≤ sumB (fun m => m.2.length) ps := by
    clear h1 h2 h
    induction ps with
    | nil => cases hm
    | cons x ps ih =>
      unfold sumB at *
      rw [List.map_cons, List.sum_cons]
      rcases List.mem_cons.mp hm with rfl | hm
      · omega
      · have := ih hm
        omega
  omega
theorem cut_int (ns : List Int) (i j : Nat) : ∃ ns' : List Int, cutV (ns.map V.int) (some (i : Int)) (some (j : Int)) = ns'.map V.int ∧ ns'.length ≤ j - i := by
  unfold cutV
  rw [HT.sIx_nat, HT.sIx_nat]
  refine ⟨(ns.drop (min i (ns.map V.int).length)).take (min j (ns.map V.int).length - min i (ns.map V.int).length), ?_, ?_⟩
  · rw [List.map_take, List.map_drop]
  · rw [List.length_take]
    omega
theorem cut_le {z : Str} {m : Nat} (lo hi : Option Int) (h : z.length ≤ m) : (cutS z lo hi).length ≤ m := Nat.le_trans (cutS_length z lo hi) h
theorem pickS {xs : List Str} {i : Int} (h0 : 0 ≤ i) (h1 : i < (xs.length : Int)) : ∃ e ∈ xs, atI (xs.map V.str) i = some (.str e) := by
  obtain ⟨j, rfl⟩ : ∃ j : Nat, i = (j : Int) := ⟨_, (Int.toNat_of_nonneg h0).symm⟩
  have hj : j < xs.length := by omega
  exact ⟨xs[j], List.getElem_mem hj, atI_nat (by rw [List.getElem?_map, List.getElem?_eq_getElem hj]; rfl)⟩
theorem tk_tail {p : Pat} : ∀ {ts : List Nat}, (∀ c ∈ ts, Takes p [c]) → Takes (.more p) ts ∧ Takes (.less p) ts
  | [], _ => ⟨⟨_, tb_more0 p⟩, ⟨_, tb_less0 p⟩⟩
  | c :: ts, h => by
    obtain ⟨⟨w1, h1⟩, ⟨w2, h2⟩⟩ := tk_tail (ts := ts) fun d hd => h d (List.mem_cons_of_mem _ hd)
    obtain ⟨w, h0⟩ := h c List.mem_cons_self
    exact ⟨⟨_, tb_more h0 h1⟩, ⟨_, tb_less h0 h2⟩⟩
theorem mem_le_sum : ∀ {l : List Nat} {x : Nat}, x ∈ l → x ≤ l.sum
  | y :: l, x, h => by
    rw [List.sum_cons]
    rcases List.mem_cons.mp h with rfl | h
    · omega
    · have := mem_le_sum h
      omega
theorem walk_inv {z : List Nat} {s : Sta} {w : List Nat} (h : Walk z s w (endS z)) : (s = endS z ∧ w = []) ∨ (∃ a, step z s = [a] ∧ Walk z a w (endS z)) ∨
    (∃ a b c w', step z s = [a, b] ∧ w = c :: w' ∧ ((c = 0 ∧ Walk z a w' (endS z)) ∨ (c = 1 ∧ Walk z b w' (endS z)))) := by
  generalize he : endS z = e at h
  cases h with
  | nil => exact .inl ⟨rfl, rfl⟩
  | one h r => exact .inr (.inl ⟨_, h, r⟩)
  | left h r => exact .inr (.inr ⟨_, _, _, _, h, rfl, .inl ⟨rfl, r⟩⟩)
  | right h r => exact .inr (.inr ⟨_, _, _, _, h, rfl, .inr ⟨rfl, r⟩⟩)
/-- small enough to be searched -/
structure Fit (m : Pat × Str) : Prop where
  sz : siz m.1 ≤ 200
  dp : dep m.1 ≤ 50
  nd : (nums (subs m.1)).Nodup
  ln : m.2.length ≤ 400
theorem Made3.fit {n : Nat} {m : Pat × Str} (h : Made3 n m) (e : n ≤ 16) : Fit m := ⟨by have := h.sz; omega, by have := h.dp; omega, h.nd, by have := h.ln; omega⟩
end Gm

set_option maxRecDepth 100000
set_option maxHeartbeats 4000000
/-! dict comprehensions over lists and over dicts; one as the value of a name -/
namespace Gm
open PySem PySem.Spec PyProof.Rows L2
theorem dc_list {K : PySem.W.Frag} {a : Addr} {xs : List V} {g : TG} {tt : TT} {tk tv : TE} {vs : List Nat} {σ : L2.St} {H1 : Hp} {D : Addr} {Qd : Hp → Prop} (Pv : Nat → Hp → Prop) (h0 : Pv 0 (upd H1 D (.dK []))) (hl : ∀ i H, Pv i H → SqL K H a xs)
    (hs : ∀ i x H, xs[i]? = some x → Pv i H → g x (wipe σ vs) H fun σ2 H2 => wipe σ2 vs = wipe σ vs ∧ tt σ2 H2 fun b H3 =>
      if b = true then tk σ2 H3 fun y H4 => tv σ2 H4 fun z H5 => ∃ kvs k, y = kV k ∧ H5 D = some (.dK kvs) ∧ kvs.length < sizeLine ∧ Pv (i + 1) (upd H5 D (.dK (putK kvs k z))) else Pv (i + 1) H3) (hd : ∀ H, Pv xs.length H → Qd H) :
    ∃ W : Nat → Nat → Hp → Prop, (∃ m, W 0 m (upd H1 D (.dK []))) ∧ ∀ i m H, W i m H →
      ((Itl K a).stop i H ∧ Qd H) ∨ ((Itl K a).go i H ∧ ∃ Nx : Hp → Prop, (∀ H', Nx H' → ∃ m', m' < m ∧ W (i + 1) m' H') ∧ ∀ x H', (Itl K a).yld i H x H' → g x (wipe σ vs) H' fun σ2 H2 => wipe σ2 vs = wipe σ vs ∧ tt σ2 H2 fun b H3 =>
        if b = true then tk σ2 H3 fun y H4 => tv σ2 H4 fun z H5 => ∃ kvs k, y = kV k ∧ H5 D = some (.dK kvs) ∧ kvs.length < sizeLine ∧ Nx (upd H5 D (.dK (putK kvs k z))) else Nx H3) := by
  refine ⟨fun i m H => m = xs.length - i ∧ i ≤ xs.length ∧ Pv i H, ⟨xs.length, by simp, Nat.zero_le _, h0⟩, ?_⟩
  rintro i m H ⟨rfl, hi, p⟩
  have q := hl i H p
  by_cases hlt : i < xs.length
  · refine .inr ⟨⟨xs, xs[i], q, by simp [hlt]⟩, Pv (i + 1), fun H' p' => ⟨xs.length - (i + 1), by omega, rfl, hlt, p'⟩, fun x H' y => ?_⟩
    obtain ⟨e, y⟩ := y
    subst e
    exact hs i x _ (y xs q) p
  · have e : i = xs.length := by omega
    subst e
    exact .inl ⟨⟨xs, q, Nat.le_refl _⟩, hd H p⟩

theorem dc_keys {d : Addr} {o : Obj} {kvs0 : List (L2.Key × V)} {g : TG} {tt : TT} {tk tv : TE} {vs : List Nat} {σ : L2.St} {H1 : Hp} {D : Addr} {Qd : Hp → Prop} (Pv : Nat → Hp → Prop) (h0 : Pv 0 (upd H1 D (.dK []))) (hl : ∀ i H, Pv i H → H d = some (.frz o (.dK kvs0)))
    (hs : ∀ i (k : L2.Key) (v : V) H, kvs0[i]? = some (k, v) → Pv i H → g (kV k) (wipe σ vs) H fun σ2 H2 => wipe σ2 vs = wipe σ vs ∧ tt σ2 H2 fun b H3 =>
      if b = true then tk σ2 H3 fun y H4 => tv σ2 H4 fun z H5 => ∃ kvs k, y = kV k ∧ H5 D = some (.dK kvs) ∧ kvs.length < sizeLine ∧ Pv (i + 1) (upd H5 D (.dK (putK kvs k z))) else Pv (i + 1) H3) (hd : ∀ H, Pv kvs0.length H → Qd H) :
    ∃ W : Nat → Nat → Hp → Prop, (∃ m, W 0 m (upd H1 D (.dK []))) ∧ ∀ i m H, W i m H →
      ((Itk d o kvs0).stop i H ∧ Qd H) ∨ ((Itk d o kvs0).go i H ∧ ∃ Nx : Hp → Prop, (∀ H', Nx H' → ∃ m', m' < m ∧ W (i + 1) m' H') ∧ ∀ x H', (Itk d o kvs0).yld i H x H' → g x (wipe σ vs) H' fun σ2 H2 => wipe σ2 vs = wipe σ vs ∧ tt σ2 H2 fun b H3 =>
        if b = true then tk σ2 H3 fun y H4 => tv σ2 H4 fun z H5 => ∃ kvs k, y = kV k ∧ H5 D = some (.dK kvs) ∧ kvs.length < sizeLine ∧ Nx (upd H5 D (.dK (putK kvs k z))) else Nx H3) := by
  refine ⟨fun i m H => m = kvs0.length - i ∧ i ≤ kvs0.length ∧ Pv i H, ⟨kvs0.length, by simp, Nat.zero_le _, h0⟩, ?_⟩
  rintro i m H ⟨rfl, hi, p⟩
  have q := hl i H p
  by_cases hlt : i < kvs0.length
  · refine .inr ⟨⟨q, hlt⟩, Pv (i + 1), fun H' p' => ⟨kvs0.length - (i + 1), by omega, rfl, hlt, p'⟩, fun x H' y => ?_⟩
    obtain ⟨e, k, v, ek, ex⟩ := y
    subst e ex
    exact hs i k v _ ek p
  · have e : i = kvs0.length := by omega
    subst e
    exact .inl ⟨⟨q, Nat.le_refl _⟩, hd H p⟩
section
variable {X : Cx}
theorem ps_setDc {i : Nat} {y : Str} {py : Pos} {kx vx tg iter : Expr} {ifs : List Expr} {scope : Scope} {own : List (Str × Nat)} {pos spos : Pos} {wi : TI} {g : TG} {tt : TT} {tk tv : TE} (hc : X.calm = true) (hN : X.N.Nodup) (hy : X.N[i]? = some y) (hyl : X.env.scope.names.lookup y = some .local)
    (hsw : swapsWith (.DictComp kx vx [⟨tg, iter, ifs, 0⟩] scope pos) (some (.Name y py)) spos.line X.env = pure true) (hi : PI X tg iter wi) (ok : BlkOk X.N X.env.scope scope own)
    (hg : ∀ (s : Shared) (H : Hp) (C : Addr) (cl : List (Str × Addr)) (fp : List Addr), PG (X.blk s H scope (compEnvC scope cl C X.env) fp) tg g) (ht : ∀ (s : Shared) (H : Hp) (C : Addr) (cl : List (Str × Addr)) (fp : List Addr), PTs (X.blk s H scope (compEnvC scope cl C X.env) fp) ifs tt)
    (hk : ∀ (s : Shared) (H : Hp) (C : Addr) (cl : List (Str × Addr)) (fp : List Addr), PE (X.blk s H scope (compEnvC scope cl C X.env) fp) kx tk)
    (he : ∀ (s : Shared) (H : Hp) (C : Addr) (cl : List (Str × Addr)) (fp : List Addr), PE (X.blk s H scope (compEnvC scope cl C X.env) fp) vx tv) (hs : ∀ x, foldedSetIterable iter X.env x = pure x := by intro _; rfl) :
    PS X (.Assign [.Name y py] (.DictComp kx vx [⟨tg, iter, ifs, 0⟩] scope pos) spos) (tAsg (tDc wi g tt tk tv (own.map (·.2))) (gName i)) := by
  refine ⟨fun pins s σ H D I h => ?_⟩
  rw [exec_Assign_Name_used _ _ _ _ hsw]
  refine wpAny_bind (wpAny_standAt (wpAny_bind ?_))
  show wpAny _ X.A (do let _ ← comprehension (.DictComp kx vx [⟨tg, iter, ifs, 0⟩] scope pos) scope X.env (firstIterPos [⟨tg, iter, ifs, 0⟩] pos) newDict false (eval iter X.env) (some (assign (.Name y py) X.env))) _ _ s
  have h : tDc wi g tt tk tv (own.map (·.2)) σ H (fun x H1 => gName i x σ H1 D.nx) := h
  refine wpAny_bind (thn (dc_core (Qf := fun _ s' => SP X pins D .next s') hc hN I hi ok hg ht hk he hs h fun L C s' m H' I' q hn f => ?_) fun _ s' hq => wpAny_pure (wpAny_pure hq))
  show wpAny _ _ (assign (.Name y py) X.env (.ref L)) _ _ _
  refine wpAny_assign_Name (store_ok2 (v := V.ref L) I' hN hy (.inl hyl) rfl (fun s2 I2 ⟨a, sb, ha⟩ => ?_) (.inr hyl))
  obtain ⟨f0, f1, f2, f3, f4, f5⟩ := f
  have haC : C ≠ a := by
    rcases ha with z | z
    · rw [z]; exact f1
    · exact fun e => f4 y a z e.symm
  refine ⟨m, hn.sameBut sb haC, fun h3 sb3 => ?_⟩
  exact ⟨_, H', I2.turned (t' := s2.toks) (fun b o hb e => (sb3.2 b hb).trans e) f0 f1 f3 f4 f5, q⟩
theorem sw_trueD {kx vx : Expr} {gs : List Comprehension} {scope : Scope} {pos py : Pos} {y : Str} {l : Nat} {env : Env} (hk : env.scope.kind = .function) (hy : env.scope.names.lookup y = some .local) (hl : (py.line == pos.line) = true)
    (ha : (scope.names.any fun (n, k) => n == y && (k == .local || k == .cell)) = false) : swapsWith (.DictComp kx vx gs scope pos) (some (.Name y py)) l env = pure true := by
  have ky : env.kindOf y = some .local := hy
  have hb : env.blockKind = .function := by unfold Env.blockKind; rw [hk]; rfl
  unfold swapsWith
  simp only [hb, ky, ha, Expr.pos, hl]
  rfl
end
/-- list(d), d keyed by numbers and texts -/
def tListK (td : TE) : TE := fun σ H Q => td σ H fun x H1 => ∃ (d : Addr) (kvs : List (L2.Key × V)), x = .ref d ∧ H1 d = some (.dK kvs) ∧ ∀ p, H1 p = none → Q (.ref p) (upd H1 p (.lst (kvs.map fun kv => kV kv.1)))
section
variable {X : Cx}
theorem pe_listK {e : Expr} {td : TE} {p pos : Pos} (hc : X.calm = true) (he : PE X e td) (hg : Gl X "list") (hm : X.mg "list" = none) (hv : bootBuiltins "list" = some (.type "list"))
    (hs : starEach [e] X.env = (false, eval e X.env) :: starEach [] X.env := by rfl) : PE X (.Call (.Name "list" p) [e] [] pos) (tListK td) := by
  refine ⟨fun pins s σ H Q I h => ?_⟩
  refine Call_ (ld_blt I hg hm hv ?_)
  refine PyProof.Rows.callWith_type1 (PyProof.Rows.args_cons (thn (he.run pins s σ H _ I h) fun u s1 ⟨x, H1, I1, rx, d, kvs, ex, hd, q⟩ => ?_) hs) hs rfl
  subst ex
  obtain rfl : u = Value.ref d := rx
  obtain ⟨hz, hsys, vs, kv, dd⟩ := (show ObjOk X.prog X.w H1 s1.heap d (.dK kvs) from I1.hok d _ hd)
  obtain ⟨es, ep, raw, le, ent⟩ := dd.raw
  have l2 : kvs.length = vs.length := Paired.length kv
  refine PyProof.Rows.args_nil ?_
  refine PySem.W.kdl_call (KdlSrc.rawDict (es := es) (ep := ep) (d := d) hsys) (I1.ok.hd hc) raw (by omega) fun h' tk acc c k gS it => ?_
  have lacc : acc.toList.length = vs.length := by rw [Array.length_toList, it.1]; exact le
  have rv : Vals (kvs.map fun kv => kV kv.1) acc.toList := by
    refine vals_of_idx _ _ (by rw [List.length_map, lacc, l2]) fun j u hj => ?_
    have hj' : acc[j]? = some u := by rw [← Array.getElem?_toList]; exact hj
    obtain ⟨hi, ev⟩ := it.2 j u hj'
    have hjv : j < vs.length := by omega
    obtain ⟨hkey, _⟩ := ent j hi (vs[j]).1 (vs[j]).2 (by rw [List.getElem?_eq_getElem hjv])
    obtain ⟨x, ex, e1, _⟩ := Paired.at kv (List.getElem?_eq_getElem hjv)
    exact ⟨kV x.1, by rw [List.getElem?_map, ex]; rfl, by rw [e1, ev]; exact relV_key hkey⟩
  have hz2 : (kvs.map fun kv => kV kv.1).length ≤ sizeLine := by rw [List.length_map]; exact hz
  refine ⟨.ref _, _, I1.laid (t' := tk) (o := .lst (kvs.map fun kv => kV kv.1)) (fun b o e => k b o e) (Nat.le_refl _) ?_, rfl, q _ (I1.hok.fresh (Nat.le_refl _))⟩
  exact ⟨hz2, acc.toList, c, rv, by rw [Array.toArray_toList]; exact gS⟩
end
end Gm

set_option maxRecDepth 100000
set_option maxHeartbeats 4000000
namespace Gm
open PySem PySem.Spec PyProof.Rows L2
/-! ### `type(x) != T`, `type(x) == T`, of two built-in types, the same or not -/
section
variable {prog : Program} {w : World} {A : Around} {E : Value → Shared → Prop} {s : Shared}
theorem ne_entry_other {X Y : String} (hX : ∀ s' : Shared, s'.TypeIs (.type X) "type") (hne : (Value.type X == Value.type Y) = false) {Q : Fin → Shared → Prop} (hq : Q (.done (.ret .notImplemented)) s) :
    wpAny (model prog w) A (Builtin.«object.__ne__» ⟨[.type X, .type Y], []⟩) Q E s := by
  unfold Builtin.«object.__ne__»
  repeat (first
    | with_reducible refine wpAny_cRoomFor_or (.inl rfl) ?_
    | (refine wpAny_bind (m := callSpecialIfBound? (.type X) (Str.ofString "__eq__") [.type Y]) (wpAny_callSpecialIfBound?_slot (hX _) TypeEq.slot_type_eq
        (call_gives TypeEq.slot_type_eq (hX _) F.entry_object_eq (F.args_object_eq_2 _ _) (TypeEq.object_eq_other rfl hne) ?_)))
    | wp_step)
  exact show wpAny (model prog w) A (ret Value.notImplemented) Q E s from wpAny_pure hq
theorem wpAny_richCompare_ne_same_decline {M : Model} {a b : Value} {T id : String} {k : Bool} {Q : Value → Shared → Prop} (ha : ∀ s' : Shared, s'.TypeIs a T) (hb : ∀ s' : Shared, s'.TypeIs b T)
    (h1 : Slot T (cmpInfo .NotEq).2.1 id) (h2 : Slot T (cmpInfo .NotEq).2.2 id) (hv : [a, b].any Value.onHeap = false) (hk : isSame a b = pure k)
    (hc : wpAny M A (call (.builtin id) [a, b]) (fun v s₁ => v = .notImplemented ∧ wpAny M A (call (.builtin id) [b, a]) (fun v s₂ => v = .notImplemented ∧ Q (.bool (!k)) s₂) E s₁) E s) :
    wpAny M A (richCompare .NotEq a b) Q E s := by
  rcases hi : cmpInfo CmpOp.NotEq with ⟨sym, f, r⟩
  rw [hi] at h1 h2
  simp only [richCompare, hi, (ha s).oneThing_none]
  try with_reducible refine wpAny_holding ?_
  refine wpAny_bind (wpAny_cRoomFor_or (.inl hv) ?_)
  refine wpAny_bind (wpAny_typeOf (ha s) (wpAny_bind (wpAny_typeOf (hb s) ?_)))
  simp only [bne_self_eq_false, Bool.false_eq_true, if_false, pure_bind, Bool.not_false, if_true]
  refine wpAny_bind (m := tryCompare a _ b) (wpAny_tryCompare_declines (ha s) h1 (wpAny_mono hc (fun v s₁ h₁ => ⟨h₁.1, ?_⟩) fun _ _ x => x))
  refine wpAny_bind (m := tryCompare b _ a) (wpAny_tryCompare_declines (hb s₁) h2 (wpAny_mono h₁.2 (fun v s₂ h₂ => ⟨h₂.1, ?_⟩) fun _ _ x => x))
  refine wpAny_bind (wpAny_rule (wpAny_bind (wpAny_of_eq hk (wpAny_pure h₂.2))))
theorem ne_type_other {X Y : String} (hX : ∀ s' : Shared, s'.TypeIs (.type X) "type") (hY : ∀ s' : Shared, s'.TypeIs (.type Y) "type") (hne : (Value.type X == Value.type Y) = false) {Q : Value → Shared → Prop} (h : Q (.bool true) s) :
    wpAny (model prog w) A (compareOp .NotEq (.type X) (.type Y)) Q E s := by
  have hne' : (Value.type Y == Value.type X) = false := by
    rw [Bool.eq_false_iff] at hne ⊢
    intro e
    exact hne (by rw [beq_iff_eq] at e ⊢; exact e.symm)
  show wpAny _ A (richCompare .NotEq _ _) Q E s
  refine wpAny_richCompare_ne_same_decline (T := "type") (k := false) hX hY slot_type_ne slot_type_ne_refl rfl (by rw [isSame_plain rfl, hne]) ?_
  refine wpAny_call (codeAny_call_builtin slot_type_ne.plain F.cmpEntry_ne (slot_type_ne.check _ _ _ _ _ _ _ _ (hX s) (F.cmpArgs_ne _ _) (ne_entry_other hX hne ⟨rfl, ?_⟩)))
  refine wpAny_call (codeAny_call_builtin slot_type_ne.plain F.cmpEntry_ne (slot_type_ne.check _ _ _ _ _ _ _ _ (hY s) (F.cmpArgs_ne _ _) (ne_entry_other hY hne' ⟨rfl, h⟩)))
end
def Meta (T : String) : Prop := ∀ s' : Shared, s'.TypeIs (.type T) "type"
section
variable {X : Cx}
theorem op_neTyG {T : String} (hT : Meta T) : OpR X (compareOp .NotEq) (fun x y H Q => ∃ S, x = .ty S ∧ Meta S ∧ y = .ty T ∧ Q (.bl (decide (S ≠ T))) H) := by
  intro pins s σ H x y v u Q I rx ry h
  obtain ⟨S, rfl, hS, rfl, q⟩ := h
  cases (show v = Value.type S from rx)
  cases (show u = Value.type T from ry)
  by_cases e : S = T
  · subst e
    exact ne_type_same hT (fin_bl I q (by simp))
  · exact ne_type_other hS hT (beq_eq_false_iff_ne.mpr fun z => e (Value.type.inj z)) (fin_bl I q (by simp [e]))
theorem op_eqTyG {T : String} (hT : Meta T) : OpR X (compareOp .Eq) (fun x y H Q => ∃ S, x = .ty S ∧ Meta S ∧ y = .ty T ∧ Q (.bl (decide (S = T))) H) := by
  intro pins s σ H x y v u Q I rx ry h
  obtain ⟨S, rfl, hS, rfl, q⟩ := h
  cases (show v = Value.type S from rx)
  cases (show u = Value.type T from ry)
  by_cases e : S = T
  · subst e
    exact TypeEq.eq_type_same hT (fin_bl I q (by simp))
  · exact TypeEq.eq_type_other hS hT (beq_eq_false_iff_ne.mpr fun z => e (Value.type.inj z)) (fin_bl I q (by simp [e]))
end

/-! ### things of a known type, which they keep -/
inductive KT (K : PySem.W.Frag) (H : Hp) : V → String → Prop where
  | non : KT K H .non "NoneType"
  | bl (b : Bool) : KT K H (.bl b) "bool"
  | int (i : Int) : KT K H (.int i) "int"
  | str (x : Str) : KT K H (.str x) "str"
  | lst {a : Addr} {xs : List V} (h : H a = some (.lst xs)) : KT K H (.ref a) "list"
  | tup {a : Addr} {xs : List V} (h : SqT K H a xs) : KT K H (.ref a) "tuple"
  | dK {a : Addr} {kvs : List (Key × V)} (h : H a = some (.dK kvs)) : KT K H (.ref a) "dict"
section
variable {K : PySem.W.Frag}
theorem KT.ty {H : Hp} {v : V} {T : String} (t : KT K H v T) : TyB K H v T := by
  cases t with
  | non => exact .non
  | bl b => exact .bl b
  | int i => exact .int i
  | str x => exact .str x
  | lst h => exact .lst (SqL.of h)
  | tup h => exact .tup h
  | dK h => exact .dK h
theorem KT.meta {H : Hp} {v : V} {T : String} (t : KT K H v T) : Meta T := by
  cases t
  · exact TypeEq.meta_NoneType
  · exact TypeEq.meta_bool
  · exact TypeEq.meta_int
  · exact TypeEq.meta_str
  · exact TypeEq.meta_list
  · exact TypeEq.meta_tuple
  · exact TypeEq.meta_dict
/-- tuples and dicts as they were, lists are lists still -/
structure TL (K : PySem.W.Frag) (H H' : Hp) : Prop where
  ts : TS K H H'
  l : ∀ a xs, H a = some (.lst xs) → ∃ ys, H' a = some (.lst ys)
  d : ∀ a (kvs : List (Key × V)), H a = some (.dK kvs) → H' a = some (.dK kvs)
theorem TL.of {H H' : Hp} (e : Same H H') : TL K H H' := ⟨TS.of e, fun a xs h => ⟨xs, e _ _ h⟩, fun a k h => e _ _ h⟩
theorem TL.trans {H H1 H2 : Hp} (a : TL K H H1) (b : TL K H1 H2) : TL K H H2 := ⟨a.ts.trans b.ts, fun x xs h => by
  obtain ⟨ys, h1⟩ := a.l x xs h
  exact b.l x ys h1, fun x k h => b.d x k (a.d x k h)⟩
theorem TL.lst {H : Hp} {l : Addr} {xs ys : List V} (h : H l = some (.lst xs)) : TL K H (upd H l (.lst ys)) := ⟨TS.lst h, fun a zs q => by
  by_cases e : a = l
  · exact ⟨ys, by rw [e]; exact upd_same⟩
  · exact ⟨zs, by rw [upd_ne e]; exact q⟩, fun a k q => by
  have e : a ≠ l := fun e => by
    rw [e, h] at q
    cases q
  rw [upd_ne e]
  exact q⟩
theorem TL.new {H : Hp} {p : Addr} {o : HO} (h : H p = none) : TL K H (upd H p o) := TL.of (same_new h)
theorem KT.mono {H H' : Hp} {v : V} {T : String} (e : TL K H H') (t : KT K H v T) : KT K H' v T := by
  cases t with
  | non => exact .non
  | bl b => exact .bl b
  | int i => exact .int i
  | str x => exact .str x
  | lst h =>
    obtain ⟨ys, h1⟩ := e.l _ _ h
    exact .lst h1
  | tup h => exact .tup (e.ts _ _ h)
  | dK h => exact .dK (e.d _ _ h)
end
end Gm
namespace Gm
open PySem PySem.Spec PyProof.Rows L2
section
variable {P : Program} {w : World} {K : PySem.W.Frag} {mg : Str → Option Value} {base : Heap}
/-- a def that may raise, what it raises has no context -/
theorem okN {x qual : Str} {st : Stmt} {f : Addr} {fd : FuncData} {N ps : List Str} {k : Nat} {sp : Sp} (F : Fun K x qual st f fd) (S : FnScope N ps (defScope st)) (len : ∀ vs H Q E, sp vs H Q E → vs.length = ps.length)
    (hbody : ∀ (cdv : Value) (A : Around) (outer : List Env) (s : Shared) (H : Hp) (vs : List V) (Q : VK) (E : XK), Room k (A.deeper (envOfC qual (defScope st) s.heap.objs.size f cdv)) → sp vs H Q E →
      ∃ t, PSs (cxOf (L2N.CX P w) P w K mg base N qual (defScope st) f cdv A outer s H E) (defBody st) t ∧ t { nx := fun _ H' => Q .non H', rt := Q } (L2.start N vs) H) : FnOk P w K mg base (L2N.CX P w) (k + 1) f fd ps sp := by
  obtain ⟨oc, od, kV, doc, pm, an, cdv, ct, osl, rfl, lk, hcd⟩ := F.ex
  exact fn_of lk hcd S len fun A outer s H vs Q E hr hsp => hbody cdv A outer s H vs Q E hr hsp
theorem cx_weak {outer : List Env} {H : Hp} {s : Shared} {E : XK} {u : Value} {s' : Shared} (h : L2N.CX P w outer H s E u s') : L2.CX P w outer H s E u s' := by
  obtain ⟨a, B, H', cls, d, e, ⟨k1, k2, k3, oe, vs, T, oT, ts, he, hz, r⟩, q⟩ := h
  exact ⟨a, B, H', cls, d, e, ⟨k1, k2, k3, oe, vs, T, oT, ts, he, hz.zc, r⟩, q⟩
theorem fnX_of {k : Nat} {f : Addr} {fd : FuncData} {ps : List Str} {sp : Sp} (F : FnOk P w K mg base (L2N.CX P w) k f fd ps sp) : FnOk P w K mg base (L2.CX P w) k f fd ps sp :=
  ⟨F.len, fun A outer s H args us vs Q E hr he hb hv hs => codeAny_mono (F.run A outer s H args us vs Q E hr he hb hv hs) fun r s' h => by
    cases r with
    | ok fl =>
      cases fl with
      | ret u => exact h
      | _ => exact h.elim
    | error e => exact cx_weak h⟩
end
end Gm
namespace Gm
open PySem PySem.Spec PyProof.Rows L2
theorem takesN0 {X : Cx} : L2N.Takes X (fun _ _ _ _ => False) := fun _ _ x => by
  obtain ⟨_, _, _, _, _, _, _, _, _, _, _, _, _, _, _, _, z⟩ := x
  exact z.elim
end Gm

set_option maxRecDepth 100000
set_option maxHeartbeats 4000000
/-! what an except suite may do and call -/
namespace Gm
open PySem PySem.Spec PyProof.Rows HotX
section
variable {prog : Program} {w : World} {A : Around} {E : Value → Shared → Prop} {s : Shared}
theorem next_list_end_hot {it l x1 : Addr} {i : Nat} {items : Array Value} {Q : Option Value → Shared → Prop} (hot : HotAt A x1 s.heap) (hxi : x1 ≠ it)
    (hit : s.heap.IsListIter it l i) (hl : s.heap.IsList l items) (hx : items[i]? = none)
    (hQ : ∀ h', Heap.ExtBut it s.heap h' → Q none { s with heap := h' }) : wpAny (model prog w) A (pyNext (.ref it)) Q E s := by
  obtain ⟨o, ho, hc, hd⟩ := id hit
  obtain ⟨ol, hol, _, nl, hdl⟩ := hl
  obtain ⟨hh, o1, vs1, h1, d1, c1⟩ := hot
  unfold pyNext
  refine wpAny_bind (wpAny_attempt (wpAny_callSpecial?_slot (name := Str.ofString "__next__") hit.typeIs slot_listiter_next
    (wpAny_call_entry slot_listiter_next hit.typeIs entry_listiter_next ?_ (args_listiter_next _))))
  show wpAny _ _ (field (.ref it) 0 >>= _) _ _ s
  refine wpAny_bind (wpAny_field ho hd (x := .ref l) rfl ?_)
  show wpAny _ _ (if (Value.ref l == Value.none) = true then _ else _) _ _ s
  rw [if_neg (show ¬ ((Value.ref l == Value.none) = true) from Bool.false_ne_true)]
  show wpAny _ _ (field (.ref it) 1 >>= _) _ _ s
  refine wpAny_bind (wpAny_field ho hd (x := .int i 0) rfl ?_)
  show wpAny _ _ (seqItems? (.ref l) >>= _) _ _ s
  refine wpAny_bind (wpAny_seqItems hol hdl ?_)
  simp only [Int.toNat_natCast, hx]
  refine wpAny_bind (wpAny_rule (wpAny_bind (wpAny_setField ho hd (by simp) ?_)))
  show wpAny _ _ (newExc (.type "StopIteration") [] >>= _) _ _ _
  refine wpAny_bind ?_
  simp only [newExc, newTuple]
  refine wpAny_bind (wpAny_newObj_type ?_ (by size_fits))
  refine wpAny_bind (m := firstArgMember _ _) (wpAny_of_eq (a := Value.none) (by first | rfl | (simp only [firstArgMember]; rfl)) ?_)
  refine wpAny_newObj_type ?_ (by size_fits)
  have hu := Heap.SameBut.update s.heap it (Obj.mapFields (·.setIfInBounds 0 .none))
  have h1' := (hu.extBut) x1 o1 hxi h1
  refine raiseNew_hot ⟨hh, o1, vs1, Heap.get?_push_of_some _ (Heap.get?_push_of_some _ h1'), d1, c1⟩ (Nat.ne_of_lt (Heap.lt_size (Heap.get?_push_of_some _ h1'))) (Heap.get?_push_size _ rfl) rfl (by first | (simp; done) | (simp; omega) | (simp only [Array.size_append]; simp; omega)) ?_
  refine wpAny_bind (wpAny_isInstance (T := "StopIteration") (b := true) ⟨_, Heap.get?_update_self _ (Heap.get?_push_size _ rfl) rfl, rfl⟩ isSubtype_stop ?_)
  refine wpAny_pure (hQ _ fun b o hb e => ?_)
  have e1 := hu.extBut b o hb e
  rw [Heap.get?_update_other _ _ (Nat.ne_of_gt (Heap.lt_size (Heap.get?_push_of_some _ e1)))]
  exact Heap.get?_push_of_some _ (Heap.get?_push_of_some _ e1)
theorem next_tuple_end_hot {it t x1 : Addr} {i : Nat} {items : Array Value} {Q : Option Value → Shared → Prop} (hot : HotAt A x1 s.heap) (hxi : x1 ≠ it)
    (hit : IsTupIter s.heap it t i) (ht : IsTup s.heap t items) (hx : items[i]? = none)
    (hQ : ∀ h', Heap.ExtBut it s.heap h' → Q none { s with heap := h' }) : wpAny (model prog w) A (pyNext (.ref it)) Q E s := by
  obtain ⟨o, ho, hc, hd⟩ := id hit
  obtain ⟨ol, hol, _, nl, hdl⟩ := ht
  obtain ⟨hh, o1, vs1, h1, d1, c1⟩ := hot
  unfold pyNext
  refine wpAny_bind (wpAny_attempt (wpAny_callSpecial?_slot (name := Str.ofString "__next__") hit.typeIs slot_tupleiter_next
    (wpAny_call_entry slot_tupleiter_next hit.typeIs entry_tupleiter_next ?_ (args_tupleiter_next _))))
  show wpAny _ _ (field (.ref it) 0 >>= _) _ _ s
  refine wpAny_bind (wpAny_field ho hd (x := .ref t) rfl ?_)
  show wpAny _ _ (if (Value.ref t == Value.none) = true then _ else _) _ _ s
  rw [if_neg (show ¬ ((Value.ref t == Value.none) = true) from Bool.false_ne_true)]
  show wpAny _ _ (field (.ref it) 1 >>= _) _ _ s
  refine wpAny_bind (wpAny_field ho hd (x := .int i 0) rfl ?_)
  show wpAny _ _ (seqItems? (.ref t) >>= _) _ _ s
  refine wpAny_bind (wpAny_seqItems hol hdl ?_)
  simp only [Int.toNat_natCast, hx]
  refine wpAny_bind (wpAny_rule (wpAny_bind (wpAny_setField ho hd (by simp) ?_)))
  show wpAny _ _ (newExc (.type "StopIteration") [] >>= _) _ _ _
  refine wpAny_bind ?_
  simp only [newExc, newTuple]
  refine wpAny_bind (wpAny_newObj_type ?_ (by size_fits))
  refine wpAny_bind (m := firstArgMember _ _) (wpAny_of_eq (a := Value.none) (by first | rfl | (simp only [firstArgMember]; rfl)) ?_)
  refine wpAny_newObj_type ?_ (by size_fits)
  have hu := Heap.SameBut.update s.heap it (Obj.mapFields (·.setIfInBounds 0 .none))
  have h1' := (hu.extBut) x1 o1 hxi h1
  refine raiseNew_hot ⟨hh, o1, vs1, Heap.get?_push_of_some _ (Heap.get?_push_of_some _ h1'), d1, c1⟩ (Nat.ne_of_lt (Heap.lt_size (Heap.get?_push_of_some _ h1'))) (Heap.get?_push_size _ rfl) rfl (by first | (simp; done) | (simp; omega) | (simp only [Array.size_append]; simp; omega)) ?_
  refine wpAny_bind (wpAny_isInstance (T := "StopIteration") (b := true) ⟨_, Heap.get?_update_self _ (Heap.get?_push_size _ rfl) rfl, rfl⟩ isSubtype_stop ?_)
  refine wpAny_pure (hQ _ fun b o hb e => ?_)
  have e1 := hu.extBut b o hb e
  rw [Heap.get?_update_other _ _ (Nat.ne_of_gt (Heap.lt_size (Heap.get?_push_of_some _ e1)))]
  exact Heap.get?_push_of_some _ (Heap.get?_push_of_some _ e1)
theorem HotAt.ext {x1 it : Addr} {h h' : Heap} (hot : HotAt A x1 h) (k : Heap.ExtBut it h h') (n : x1 ≠ it) : HotAt A x1 h' := by
  obtain ⟨hh, o1, vs1, h1, d1, c1⟩ := hot
  exact ⟨hh, o1, vs1, k _ _ n h1, d1, c1⟩
theorem unpackItems_tuple_hot {t x1 : Addr} {items : Array Value} {Q : List Value → Shared → Prop} (hot : HotAt A x1 s.heap) (ht : IsTup s.heap t items)
    (hQ : ∀ h', Heap.ExtBut s.heap.objs.size s.heap h' → Q items.toList { s with heap := h' }) : wpAny (model prog w) A (unpackItems (.ref t) items.size none) Q E s := by
  have hlt : t ≠ s.heap.objs.size := by obtain ⟨o, ho, _⟩ := ht; exact Nat.ne_of_lt (Heap.lt_size ho)
  have hx1 : x1 ≠ s.heap.objs.size := by obtain ⟨_, o, _, ho, _⟩ := hot; exact Nat.ne_of_lt (Heap.lt_size ho)
  unfold unpackItems
  refine wpAny_bind ?_
  · unfold notIterableAtAll
    refine wpAny_bind (wpAny_specialOf ht.typeIs slot_tuple_iter.lookup ?_)
    refine wpAny_pure ?_
    simp only [Bool.false_eq_true, if_false]
    refine wpAny_bind (wpAny_holding (iter_tuple ht ?_))
    refine wpAny_bind (wpAny_holding (draw_tuple hlt items.size 0 _ _ ⟨_, Heap.get?_push_size _ rfl, rfl, rfl⟩ (ht.push _) (by omega) fun h₁ hit₁ hs₁ => ?_))
    have hall : List.take items.size (List.drop 0 items.toList) = items.toList := by
      rw [List.drop_zero]; exact List.take_of_length_le (by simp)
    rw [hall]
    rw [if_neg (by simp)]
    have ht₁ : IsTup h₁ t items := (ht.push _).extBut hs₁.extBut hlt
    have hot₁ : HotAt A x1 h₁ := by
      obtain ⟨hh, o1, vs1, h1, d1, c1⟩ := hot
      exact ⟨hh, o1, vs1, hs₁.extBut _ _ hx1 (Heap.get?_push_of_some _ h1), d1, c1⟩
    refine wpAny_bind (wpAny_holding (next_tuple_end_hot hot₁ hx1 hit₁ ht₁ (by simp) fun h₂ he₂ => ?_))
    simp only [Option.isSome_none, Bool.false_eq_true, if_false]
    refine wpAny_pure (hQ h₂ fun b o hb e => he₂ b o hb (hs₁.extBut b o hb (Heap.get?_push_of_some _ e)))
theorem assign_Tuple_tuple_hot {env : Env} {elts : List Expr} {k : Nat} {pos : Pos} {t x1 : Addr} {items : Array Value} {Q : Unit → Shared → Prop} (hot : HotAt A x1 s.heap) (ht : IsTup s.heap t items)
    (hn : (assignEach elts env).length = items.size) (hstar : (assignEach elts env).findIdx? (·.1) = none)
    (h : ∀ h', Heap.ExtBut s.heap.objs.size s.heap h' → wpAny (model prog w) A (assignInOrder ((assignEach elts env).map (·.2)) items.toList) Q E { s with heap := h' }) :
    wpAny (model prog w) A (assign (.Tuple elts k pos) env (.ref t)) Q E s := by
  rw [assign_Tuple]
  refine wpAny_bind (wpAny_standAt ?_)
  unfold unpack
  rw [hn, hstar]
  exact wpAny_bind (wpAny_holding (unpackItems_tuple_hot hot ht h))
theorem next_rev_end_hot {it l x1 : Addr} {Q : Option Value → Shared → Prop} (hot : HotAt A x1 s.heap) (hit : s.heap.IsRevIter it l (-1))
    (hQ : ∀ h', Heap.ExtBut it s.heap h' → Q none { s with heap := h' }) : wpAny (model prog w) A (pyNext (.ref it)) Q E s := by
  obtain ⟨o, ho, hc, hd⟩ := id hit
  obtain ⟨hh, o1, vs1, h1, d1, c1⟩ := hot
  unfold pyNext
  refine wpAny_bind (wpAny_attempt (wpAny_callSpecial?_slot (name := Str.ofString "__next__") hit.typeIs F.slot_lri_next
    (wpAny_call_entry F.slot_lri_next hit.typeIs F.entry_lri_next ?_ (F.args_lri_next_1 _))))
  unfold Builtin.«list_reverseiterator.__next__»
  refine wpAny_bind (wpAny_of_eq (a := (Value.ref it, [])) rfl ?_)
  try dsimp only
  refine wpAny_bind (wpAny_field ho hd (x := rawInt (-1)) rfl ?_)
  show wpAny _ _ (if (-1 : Int) < 0 then _ else _) _ _ s
  rw [if_pos (by decide)]
  refine wpAny_bind (wpAny_rule ?_)
  first
  | show wpAny _ _ (newExc (.type "StopIteration") [] >>= _) _ _ _
  | (refine wpAny_bind ?_; show wpAny _ _ (newExc (.type "StopIteration") [] >>= _) _ _ _)
  refine wpAny_bind ?_
  simp only [newExc, newTuple]
  refine wpAny_bind (wpAny_newObj_type ?_ (by size_fits))
  refine wpAny_bind (m := firstArgMember _ _) (wpAny_of_eq (a := Value.none) (by first | rfl | (simp only [firstArgMember]; rfl)) ?_)
  refine wpAny_newObj_type ?_ (by size_fits)
  refine raiseNew_hot ⟨hh, o1, vs1, Heap.get?_push_of_some _ (Heap.get?_push_of_some _ h1), d1, c1⟩ (Nat.ne_of_lt (Heap.lt_size (Heap.get?_push_of_some _ h1))) (Heap.get?_push_size _ rfl) rfl (by first | (simp; done) | (simp; omega) | (simp only [Array.size_append]; simp; omega)) ?_
  refine wpAny_bind (wpAny_isInstance (T := "StopIteration") (b := true) ⟨_, Heap.get?_update_self _ (Heap.get?_push_size _ rfl) rfl, rfl⟩ isSubtype_stop ?_)
  refine wpAny_pure (hQ _ fun b o hb e => ?_)
  rw [Heap.get?_update_other _ _ (Nat.ne_of_gt (Heap.lt_size (Heap.get?_push_of_some _ e)))]
  exact Heap.get?_push_of_some _ (Heap.get?_push_of_some _ e)
theorem nextOf_list_end_hot {it l x1 : Addr} {i : Nat} {items} {Q : Value → Shared → Prop} (hot : HotAt A x1 s.heap) (hxi : x1 ≠ it)
    (hit : s.heap.IsListIter it l i) (hl : s.heap.IsList l items) (hx : items[i]? = none)
    (hE : ∀ h' e, Heap.ExtBut it s.heap h' → (∃ o, h'.get? e = some o ∧ o.cls = .type "StopIteration") → E (.ref e) { s with heap := h' }) :
    wpAny (model prog w) A (Builtin.SmallTypes.nextOf (.ref it)) Q E s := by
  obtain ⟨o, ho, hc, hd⟩ := id hit
  obtain ⟨ol, hol, _, nl, hdl⟩ := hl
  obtain ⟨hh, o1, vs1, h1, d1, c1⟩ := hot
  unfold Builtin.SmallTypes.nextOf
  refine wpAny_bind (wpAny_callSpecial?_slot (name := Str.ofString "__next__") hit.typeIs slot_listiter_next
    (wpAny_call_entry slot_listiter_next hit.typeIs entry_listiter_next ?_ (args_listiter_next _)))
  show wpAny _ _ (field (.ref it) 0 >>= _) _ _ s
  refine wpAny_bind (wpAny_field ho hd (x := .ref l) rfl ?_)
  show wpAny _ _ (if (Value.ref l == Value.none) = true then _ else _) _ _ s
  rw [if_neg (show ¬ ((Value.ref l == Value.none) = true) from Bool.false_ne_true)]
  show wpAny _ _ (field (.ref it) 1 >>= _) _ _ s
  refine wpAny_bind (wpAny_field ho hd (x := .int i 0) rfl ?_)
  show wpAny _ _ (seqItems? (.ref l) >>= _) _ _ s
  refine wpAny_bind (wpAny_seqItems hol hdl ?_)
  simp only [Int.toNat_natCast, hx]
  refine wpAny_bind (wpAny_rule (wpAny_bind (wpAny_setField ho hd (by simp) ?_)))
  show wpAny _ _ (newExc (.type "StopIteration") [] >>= _) _ _ _
  refine wpAny_bind ?_
  simp only [newExc, newTuple]
  refine wpAny_bind (wpAny_newObj_type ?_ (by size_fits))
  refine wpAny_bind (m := firstArgMember _ _) (wpAny_of_eq (a := Value.none) (by first | rfl | (simp only [firstArgMember]; rfl)) ?_)
  refine wpAny_newObj_type ?_ (by size_fits)
  have hu := Heap.SameBut.update s.heap it (Obj.mapFields (·.setIfInBounds 0 .none))
  have h1' := (hu.extBut) x1 o1 hxi h1
  refine raiseNew_hot ⟨hh, o1, vs1, Heap.get?_push_of_some _ (Heap.get?_push_of_some _ h1'), d1, c1⟩ (Nat.ne_of_lt (Heap.lt_size (Heap.get?_push_of_some _ h1'))) (Heap.get?_push_size _ rfl) rfl (by first | (simp; done) | (simp; omega) | (simp only [Array.size_append]; simp; omega)) ?_
  refine hE _ _ (fun b o hb e => ?_) ⟨_, Heap.get?_update_self _ (Heap.get?_push_size _ rfl) rfl, rfl⟩
  have e1 := hu.extBut b o hb e
  rw [Heap.get?_update_other _ _ (Nat.ne_of_gt (Heap.lt_size (Heap.get?_push_of_some _ e1)))]
  exact Heap.get?_push_of_some _ (Heap.get?_push_of_some _ e1)
theorem next_enum_end_hot {e it l x1 : Addr} {i : Nat} {items : Array Value} {old : Value} {Q : Option Value → Shared → Prop} (hot : HotAt A x1 s.heap) (hxi : x1 ≠ it)
    (he : IsEnum s.heap e it i old) (hit : s.heap.IsListIter it l i) (hl : s.heap.IsList l items) (hx : items[i]? = none)
    (hQ : ∀ h', Heap.ExtBut it s.heap h' → Q none { s with heap := h' }) : wpAny (model prog w) A (pyNext (.ref e)) Q E s := by
  have hT : s.TypeIs (.ref e) "enumerate" := ⟨_, he, rfl⟩
  unfold pyNext
  refine wpAny_bind (wpAny_attempt (wpAny_callSpecial?_slot (name := Str.ofString "__next__") hT F.slot_enumerate_next
    (wpAny_call_entry F.slot_enumerate_next hT F.entry_enumerate_next ?_ (F.args_enumerate_next_1 _))))
  show wpAny _ _ (field (.ref e) 2 >>= _) _ _ _
  refine wpAny_bind (wpAny_field he rfl (x := .ref it) rfl ?_)
  refine wpAny_bind (nextOf_list_end_hot hot hxi hit hl hx fun h' x he' hx' => ?_)
  obtain ⟨o, ho, hc⟩ := hx'
  refine wpAny_bind (wpAny_isInstance (T := "StopIteration") (b := true) ⟨o, ho, hc⟩ isSubtype_stop ?_)
  exact wpAny_pure (hQ _ he')
theorem walks_hot {x1 : Addr} (I ax : Addr) (hx : x1 ≠ I) (hne : ax ≠ I) (items : Array Value) :
    Walks prog w A I [I, ax, x1] [I] items.size (fun i v => items[i]? = some v) (fun i h => h.IsListIter I ax i ∧ h.IsList ax items ∧ HotAt A x1 h) where
  sub := fun b hb => by simp at hb; simp [hb]
  frame := fun _ _ _ st hk => ⟨st.1.at fun o e => hk I (by simp) o e, st.2.1.at fun o e => hk ax (by simp) o e, by
    obtain ⟨hh, o1, vs1, h1, d1, c1⟩ := st.2.2
    exact ⟨hh, o1, vs1, hk x1 (by simp) o1 h1, d1, c1⟩⟩
  item := fun i s Q E hi st hQ => by
    refine wpAny_pyNext_list_item st.1 st.2.1 (x := items[i]) (by simp [hi]) fun h' hit' hs' => ?_
    exact hQ _ h' s.toks (by simp [hi]) ⟨hit', st.2.1.extBut hs'.extBut hne, HotAt.ext st.2.2 hs'.extBut hx⟩ fun b o hb e => hs'.extBut b o (fun h => hb (by simp [h])) e
  done := fun s Q E st hQ => next_list_end_hot st.2.2 hx st.1 st.2.1 (by simp) fun h' he' => hQ h' s.toks fun b o hb e => he' b o (fun h => hb (by simp [h])) e
  self := fun _ _ _ _ st hQ => wpAny_pyIter_listiter st.1 hQ

set_option maxRecDepth 100000 in
set_option maxHeartbeats 6400000 in
theorem call_set_hot {l x1 : Addr} {items : Array Value} {ns : List Int} {Q : Value → Shared → Prop}
    (hot : HotAt A x1 s.heap) (hl : s.heap.IsList l items) (hi : PyProof.Rows.IntsAre items.toList ns) (hb : items.size + 1 < scanBound)
    (h : ∀ (h' : Heap) (tk : Nat), h'.SetOf (intKind prog w) s.heap.objs.size (fun k' => (PyProof.Rows.firstMet (fun i => ns.getD i 0) items.size).any (· == k')) (PyProof.Rows.firstMet (fun i => ns.getD i 0) items.size).length →
      (∀ b o, b < s.heap.objs.size → s.heap.get? b = some o → h'.get? b = some o) → Q (.ref s.heap.objs.size) { s with heap := h', toks := tk }) :
    wpAny (model prog w) A (call (.type "set") [.ref l]) Q E s := by
  obtain ⟨c, tl, hmro⟩ := F.called_set.mro
  have hmade := F.called_set.made
  have hsub := F.called_set.sub
  refine wpAny_call (codeAny_of_tree ?_)
  show wpAny _ _ (callAny (.type "set") _) _ _ _
  refine wpAny_pure ⟨Code.quiet_builtin _ (by decide +kernel), codeAny_builtin F.entry_type_call ?_⟩
  rw [Around.under_plain (weight_type_call_type "set" [.ref l] []) rfl]
  have h1 := F.called_set.notType
  have h2 := F.called_set.canCreate
  have hct := F.typeCall_set_1 (.ref l)
  repeat (any_goals (first | assumption | wp_step))

  refine codeAny_mono (code_set_new_1 (.ref l) (E := E) (Q₁ := fun obj s₁ => ∃ led : Bool, obj = .ref s.heap.objs.size ∧ s₁ = { s with heap := s.heap.push { cls := .type "set", dict := none, data := .set #[] 0 (.fresh 0 0 led) } }) fun led => ⟨led, rfl, rfl⟩) fun r s₁ hr => ?_
  cases r with
  | error e => exact hr
  | ok fl =>
    cases fl with
    | ret obj =>
      obtain ⟨led, rfl, rfl⟩ := hr
      have hS : (s.heap.push { cls := .type "set", dict := none, data := .set #[] 0 (.fresh 0 0 led) }).get? s.heap.objs.size = some { cls := .type "set", dict := none, data := .set #[] 0 (.fresh 0 0 led) } := Heap.get?_push_size _ rfl
      have hT : Shared.TypeIs { s with heap := s.heap.push { cls := .type "set", dict := none, data := .set #[] 0 (.fresh 0 0 led) } } (.ref s.heap.objs.size) "set" := ⟨_, hS, rfl⟩
      have hli := F.called_set.init.lookup
      have hbi := F.called_set.init.bind (.ref s.heap.objs.size)
      repeat (any_goals (first | assumption | wp_step))

      refine codeAny_mono (codeAny_call_builtin (R := wants (fun r s₂ => r = .none ∧ ∃ h' tk, s₂ = { s with heap := h', toks := tk } ∧
          h'.SetOf (intKind prog w) s.heap.objs.size (fun k' => (PyProof.Rows.firstMet (fun i => ns.getD i 0) items.size).any (· == k')) (PyProof.Rows.firstMet (fun i => ns.getD i 0) items.size).length ∧
          (∀ b o, b < s.heap.objs.size → s.heap.get? b = some o → h'.get? b = some o)) E) F.called_set.init.plain F.entry_set_init (check_set_init_1 hT ?_)) fun r₂ s₂ hr₂ => ?_
      · obtain ⟨ol, hol, hcl, nl, hdl⟩ := hl
        obtain ⟨ocls, odict, odata, oslots⟩ := ol
        simp only at hcl hdl
        subst hcl; subst hdl
        have hol' : (s.heap.push { cls := .type "set", dict := none, data := .set #[] 0 (.fresh 0 0 led) }).get? l = some { cls := .type "list", dict := odict, data := .seq items nl, slots := oslots } := Heap.get?_push_of_some _ hol
        have hsls := F.sub_list_set
        have hslf := F.sub_list_frozenset
        have hne : (Value.type "list" == Value.type "dict") = false := by decide
        have hl1 : (s.heap.push { cls := .type "set", dict := none, data := .set #[] 0 (.fresh 0 0 led) }).IsList l items := ⟨_, hol', rfl, nl, rfl⟩
        unfold Builtin.«set.__init__» noKeywords Builtin.Frozenset.updateFrom
        generalize hPI : pyIter = PI
        wp_walk
        subst hPI

        refine wpAny_pyIter_list hl1 ?_
        refine wpAny_bind (wpAny_runValue ?_)
        have hlS : l < s.heap.objs.size := Heap.lt_size hol
        obtain ⟨hh, o1, vs1, g1, d1, c1⟩ := hot
        have hx1 : x1 < s.heap.objs.size := Heap.lt_size g1
        have hneI : l ≠ (s.heap.push { cls := .type "set", dict := none, data := .set #[] 0 (.fresh 0 0 led) }).objs.size := by
          rw [Heap.size_push]; exact Nat.ne_of_lt (Nat.lt_succ_of_lt hlS)
        have hSf : s.heap.objs.size ∉ [(s.heap.push { cls := .type "set", dict := none, data := .set #[] 0 (.fresh 0 0 led) }).objs.size, l, x1] := by
          rw [Heap.size_push]; simp only [List.mem_cons, List.mem_singleton, List.not_mem_nil, or_false, not_or]
          exact ⟨Nat.ne_of_lt (Nat.lt_succ_self _), Nat.ne_of_gt hlS, Nat.ne_of_gt hx1⟩
        have hval : ∀ (i : Nat) (v : Value), items[i]? = some v → ∃ t, v = .int ((fun i => ns.getD i 0) i) t := fun i v hv =>
          PyProof.Rows.IntsAre.int_at hi i v (by rw [Array.getElem?_toList]; exact hv)
        refine PyProof.Rows.codeAny_set_update_loopS ((walks_hot (A := A.in1.in1.in1) (x1 := x1) _ l (by rw [Heap.size_push]; exact Nat.ne_of_lt (Nat.lt_succ_of_lt hx1)) hneI items).toS) s.heap.objs.size
          hSf (fun i => ns.getD i 0) hval hb (items.size - 0) 0 _ (by omega) (Nat.zero_le _)
          ⟨⟨_, Heap.get?_push_size _ rfl, rfl, rfl⟩, (hl1.push _), ⟨hh, o1, vs1, Heap.get?_push_of_some _ (Heap.get?_push_of_some _ g1), d1, c1⟩⟩ ?hS0 ?hR
        case hS0 =>
          have hget : ((s.heap.push { cls := .type "set", dict := none, data := .set #[] 0 (.fresh 0 0 led) }).push { cls := .type "list_iterator", data := .fields #[.ref l, .int 0 0] }).get? s.heap.objs.size
              = some { cls := .type "set", dict := none, data := .set #[] 0 (.fresh 0 0 led) } := Heap.get?_push_of_some _ hS
          exact PyProof.Rows.SetOf_congr ((PyProof.Rows.setObjOf_fresh (knd := intKind prog w) led).setOf hget (by unfold scanBound; omega)) (fun _ => rfl) rfl
        case hR =>
          intro s' hm hS'
          obtain ⟨h', g', d', tk', os'⟩ := s'
          have eg : g' = s.gens := hm.gens
          have ed : d' = s.drawn := hm.drawn
          have eo : os' = s.os := hm.os
          subst eg; subst ed; subst eo
          show wpAny _ _ _ _ _ _
          refine wpAny_pure ?_
          show wpAny _ _ (ret Value.none) _ _ _
          refine wpAny_pure ⟨rfl, h', tk', rfl, hS', fun b o hb e => ?_⟩
          have hb1 : b ≠ s.heap.objs.size := Nat.ne_of_lt hb
          have hb2 : b ≠ (s.heap.push { cls := .type "set", dict := none, data := .set #[] 0 (.fresh 0 0 led) }).objs.size := by
            rw [Heap.size_push]; exact Nat.ne_of_lt (Nat.lt_succ_of_lt hb)
          exact hm.heap b o (by simp only [List.mem_cons, List.mem_singleton, List.not_mem_nil, or_false, not_or]; exact ⟨hb1, hb2⟩) (Heap.get?_push_of_some _ (Heap.get?_push_of_some _ e))

      · cases r₂ with
        | error e => exact hr₂
        | ok fl₂ =>
          cases fl₂ with
          | ret r =>
            obtain ⟨rfl, h', tk, rfl, hS', hk'⟩ := hr₂
            repeat (any_goals (first | assumption | wp_step))
            exact h _ _ hS' hk'
          | _ => exact hr₂.elim
    | _ => exact hr.elim
end
end Gm
namespace Gm
open PySem PySem.Spec PyProof.Rows L2 HotX
/-- x1 is handled wherever X's code stands -/
def HotI (X : Cx) (x1 : Addr) : Prop := ∀ (pins : List (Addr × Obj)) (σ : L2.St) (H : Hp) (s : Shared), Inv X pins σ H s → HotAt X.A x1 s.heap ∧ H x1 = none ∧ x1 ≠ X.env.locals ∧ x1 ∉ X.fs
section
variable {X : Cx} {x1 : Addr} {pos : Pos}
theorem hot_suite {a : Addr} {oe : Obj} {pn : List (Addr × Obj)} (hz : PXN.CtxN oe) (hf : ∃ vs, oe.data = .fields vs) : HotI (X.suite a ((a, oe) :: pn)) a := by
  intro pins σ H s I
  obtain ⟨vs, e⟩ := hf
  obtain ⟨h1, h2, h3, h4, _⟩ := I.pin (a, oe) (List.mem_append_left _ List.mem_cons_self)
  exact ⟨⟨rfl, oe, vs, h1, e, hz vs e⟩, h2, h3, h4⟩
theorem hot_blk {pins : List (Addr × Obj)} {σ : L2.St} {H : Hp} {s : Shared} {scope : Scope} {cl : List (Str × Addr)} {fp : List Addr} (hot : HotI X x1) (I : Inv X pins σ H s) (hfp : x1 ∉ fp) :
    HotI (X.blk s H scope (compEnvC scope cl s.heap.objs.size X.env) fp) x1 := by
  intro pins' σ' H' s' I'
  obtain ⟨⟨hh, o1, vs1, h1, d1, c1⟩, n1, n2, n3⟩ := hot pins σ H s I
  have nfs : x1 ∉ frs X.stack := by
    rcases I.ok.stk with e | ⟨e, ef⟩
    · rw [e]
      exact n3
    · rw [e]
      intro hm
      obtain ⟨e1, he1, q⟩ := List.mem_filterMap.mp hm
      rcases List.mem_cons.mp he1 with z | z
      · rw [z, ef] at q
        exact n2 (Option.some.inj q).symm
      · exact n3 (List.mem_filterMap.mpr ⟨e1, z, q⟩)
  refine ⟨⟨hh, o1, vs1, I'.base.keep x1 o1 h1 n1 nfs hfp, d1, c1⟩, I'.base.free x1 o1 h1 n1 hfp, ?_, nfs⟩
  exact Nat.ne_of_lt (Heap.lt_size h1)
theorem pg_tupH {es : List Expr} {k : Nat} {t : TGs} {n : Nat} (hot : HotI X x1) (h : PGs X es t)
    (hn : (assignEach es X.env).length = n := by rfl) (hst : (assignEach es X.env).findIdx? (·.1) = none := by rfl) : PG X (.Tuple es k pos) (gTup X.K n t) := by
  refine ⟨fun pins s σ H v u Q I r hw => ?_⟩
  obtain ⟨a, xs, e1, hq, hl, hw⟩ := hw
  subst e1
  cases r
  obtain ⟨its, rv, ht, hz⟩ := I.tuple hq
  refine assign_Tuple_tuple_hot (hot _ _ _ _ I).1 ht (by simp [hn, ← hl, rv.length]) hst fun h' hx => ?_
  have I1 : Inv X pins σ H { s with heap := h' } := I.kept (t' := s.toks) fun b o e => hx b o (Nat.ne_of_lt (Heap.lt_size e)) e
  exact h.run pins _ σ H xs _ Q I1 (by simpa using rv) hw
end
theorem HotI.lt2 {X : Cx} {x1 : Addr} (hot : HotI X x1) {pins : List (Addr × Obj)} {σ : L2.St} {H : Hp} {s : Shared} (I : Inv X pins σ H s) : x1 < s.heap.objs.size := by
  obtain ⟨⟨_, o, _, e, _⟩, _⟩ := hot _ _ _ _ I
  exact Heap.lt_size e
theorem HotI.lt {X : Cx} {x1 : Addr} (hot : HotI X x1) {pins : List (Addr × Obj)} {σ : L2.St} {H : Hp} {s : Shared} (I : Inv X pins σ H s) : x1 ≠ s.heap.objs.size := Nat.ne_of_lt (hot.lt2 I)
/-- a walk's turns where x1 is handled -/
structure TurnX (P : Program) (w : World) (K : PySem.W.Frag) (tg : Expr) (J : It) (fp : List Addr) (it : Addr) (tn : Nat → Heap → Prop) (x1 : Addr) : Prop where
  T : Turn P w K tg J fp it tn
  nx : x1 ∉ fp
  item : ∀ (X : Cx), X.prog = P → X.w = w → X.K = K → ∀ (i : Nat) (pins : List (Addr × Obj)) (s : Shared) (σ : L2.St) (H : Hp) (E : Value → Shared → Prop), HotAt X.A x1 s.heap → Inv X pins σ H s → (∀ b ∈ fp, FpOk X pins H b) → tn i s.heap → J.go i H →
    wpAny (model P w) X.A (pyNext (.ref it)) (fun r s1 => ∃ u, r = some u ∧
      wpAny (model P w) X.A (letOwnedTupleGo tg (.ref it) u) (fun _ s2 => ∃ x H', Inv X pins σ H' s2 ∧ RelV x u ∧ J.yld i H x H' ∧ tn (i + 1) s2.heap ∧ ∀ b ∈ fp, H' b = none) E s1) E s
  done : ∀ (X : Cx), X.prog = P → X.w = w → X.K = K → ∀ (i : Nat) (pins : List (Addr × Obj)) (s : Shared) (σ : L2.St) (H : Hp) (E : Value → Shared → Prop), HotAt X.A x1 s.heap → Inv X pins σ H s → (∀ b ∈ fp, FpOk X pins H b) → tn i s.heap → J.stop i H →
    wpAny (model P w) X.A (pyNext (.ref it)) (fun r s1 => r = none ∧ Inv X pins σ H s1) E s
def PIEX (X : Cx) (pins : List (Addr × Obj)) (σ : L2.St) (tg : Expr) (R : It → Hp → Prop) (x1 : Addr) (itv : Value) (s2 : Shared) : Prop :=
  ∃ (it : Addr) (fp : List Addr) (tn : Nat → Heap → Prop) (J : It) (H' : Hp), itv = .ref it ∧ Inv X pins σ H' s2 ∧ TurnX X.prog X.w X.K tg J fp it tn x1 ∧ tn 0 s2.heap ∧ (∀ b ∈ fp, FpOk X pins H' b) ∧ R J H'
structure PIX (X : Cx) (tg iter : Expr) (wi : L2.TI) (x1 : Addr) : Prop where
  run : ∀ (pins : List (Addr × Obj)) (s : Shared) (σ : L2.St) (H : Hp) (R : It → Hp → Prop), Inv X pins σ H s → wi σ H R →
    wpAny (model X.prog X.w) X.A (eval iter X.env) (fun v s1 => wpAny (model X.prog X.w) X.A (pyIter v) (PIEX X pins σ tg R x1) X.xe s1) X.xe s
theorem pix_one {X : Cx} {tg : Expr} {x1 : Addr} {pins : List (Addr × Obj)} {σ : L2.St} {H : Hp} {s : Shared} {R : It → Hp → Prop} {J : It} {tn : Nat → Heap → Prop} {tk : Nat} (I : Inv X pins σ H s) (o : Obj)
    (T : TurnX X.prog X.w X.K tg J [s.heap.objs.size] s.heap.objs.size tn x1) (st : tn 0 (s.heap.push o)) (q : R J H) : PIEX X pins σ tg R x1 (.ref s.heap.objs.size) { s with heap := s.heap.push o, toks := tk } := by
  refine ⟨s.heap.objs.size, [s.heap.objs.size], tn, J, H, rfl, I.kept fun b ob e => Heap.get?_push_of_some _ e, T, st, fun b hb => ?_, q⟩
  obtain rfl : b = s.heap.objs.size := by simpa using hb
  exact I.fpOk (Nat.le_refl _) (I.hok.fresh (Nat.le_refl _))

theorem turnx_list {P : Program} {w : World} {K : PySem.W.Frag} {tg : Expr} {x1 : Addr} (a it : Addr) (nx : x1 ≠ it) : TurnX P w K tg (Itl K a) [it] it (fun i h => h.IsListIter it a i) x1 where
  T := turn_list a it
  nx := by simpa using nx
  item := by
    intro X hP hw hK i pins s σ H E hot I hf st hg
    subst hP hw hK
    obtain ⟨xs, x, hq, hx⟩ := hg
    obtain ⟨its, rv, p, hz⟩ := I.list hq
    obtain ⟨u, hu, ru⟩ := rv.get hx
    obtain ⟨f0, f1, f2, f3, f4, f5⟩ := hf it (by simp)
    refine wpAny_pyNext_list_item st p.isList (x := u) (by simpa using hu) fun h' st' sb => ?_
    have I1 : Inv X pins σ H { s with heap := h' } := I.turned (t' := s.toks) (fun b o hb e => (sb.2 b hb).trans e) f0 f1 f3 f4 f5
    obtain ⟨o, e, c, d⟩ := id st'
    exact ⟨u, rfl, go_of (s := { s with heap := h' }) e c d (by decide) ⟨x, H, I1, ru, ⟨rfl, fun ys hy => by rw [I.list_inj hy hq]; exact hx⟩, st', fun b hb => (hf b hb).1⟩⟩
  done := by
    intro X hP hw hK i pins s σ H E hot I hf st hg
    subst hP hw hK
    obtain ⟨xs, hq, hx⟩ := hg
    obtain ⟨its, rv, p, hz⟩ := I.list hq
    obtain ⟨f0, f1, f2, f3, f4, f5⟩ := hf it (by simp)
    have hl := rv.length
    exact next_list_end_hot hot nx st p.isList (by simp; omega) fun h' eb => ⟨rfl, I.turned (t' := s.toks) (fun b o hb e => eb b o hb e) f0 f1 f3 f4 f5⟩
theorem turnx_rev {P : Program} {w : World} {K : PySem.W.Frag} {tg : Expr} {x1 : Addr} (a it : Addr) (n : Nat) (nx : x1 ≠ it) : TurnX P w K tg (Itv K a n) [it] it (fun i h => i ≤ n ∧ h.IsRevIter it a ((n : Int) - 1 - (i : Nat))) x1 where
  T := turn_rev a it n
  nx := by simpa using nx
  item := by
    intro X hP hw hK i pins s σ H E hot I hf st hg
    subst hP hw hK
    obtain ⟨hin, xs, x, hq, hx⟩ := hg
    obtain ⟨its, rv, p, hz⟩ := I.list hq
    obtain ⟨u, hu, ru⟩ := rv.get hx
    obtain ⟨f0, f1, f2, f3, f4, f5⟩ := hf it (by simp)
    obtain ⟨_, hit⟩ := st
    have e1 : (n : Int) - 1 - ((i : Nat) : Int) = ((n - 1 - i : Nat) : Int) := by omega
    rw [e1] at hit
    refine wpAny_pyNext_rev_item hit p.isList (x := u) (by simpa using hu) fun h' st' sb => ?_
    have e2 : ((n - 1 - i : Nat) : Int) - 1 = (n : Int) - 1 - ((i + 1 : Nat) : Int) := by omega
    rw [e2] at st'
    have I1 : Inv X pins σ H { s with heap := h' } := I.turned (t' := s.toks) (fun b o hb e => (sb.2 b hb).trans e) f0 f1 f3 f4 f5
    obtain ⟨o, e, c, d⟩ := id st'
    exact ⟨u, rfl, go_of (s := { s with heap := h' }) e c d (by decide) ⟨x, H, I1, ru, ⟨rfl, fun ys hy => by rw [I.list_inj hy hq]; exact hx⟩, ⟨hin, st'⟩, fun b hb => (hf b hb).1⟩⟩
  done := by
    intro X hP hw hK i pins s σ H E hot I hf st hg
    subst hP hw hK
    obtain ⟨f0, f1, f2, f3, f4, f5⟩ := hf it (by simp)
    obtain ⟨hin, hit⟩ := st
    have hge : n ≤ i := hg
    have e1 : (n : Int) - 1 - ((i : Nat) : Int) = -1 := by omega
    rw [e1] at hit
    exact next_rev_end_hot hot hit fun h' eb => ⟨rfl, I.turned (t' := s.toks) (fun b o hb e => eb b o hb e) f0 f1 f3 f4 f5⟩
theorem turnx_enum {P : Program} {w : World} {K : PySem.W.Frag} {elts : List Expr} {kk : Nat} {tpos : Pos} {x1 : Addr} (a e it : Addr) (nx : x1 ≠ e) (nx2 : x1 ≠ it) :
    TurnX P w K (.Tuple elts kk tpos) (Ite K a) [e, it] e (fun i h => (∃ old, IsEnum h e it ((i : Nat) : Int) old) ∧ h.IsListIter it a i ∧ e ≠ it) x1 where
  T := turn_enum a e it
  nx := by simp [nx, nx2]
  item := by
    intro X hP hw hK i pins s σ H E hot I hf st hg
    subst hP hw hK
    obtain ⟨⟨old, he⟩, hit, hne⟩ := st
    obtain ⟨xs, x, hq, hx⟩ := hg
    obtain ⟨its, rv, p, hz⟩ := I.list hq
    obtain ⟨u, hu, ru⟩ := rv.get hx
    have hel : e < s.heap.objs.size := Heap.lt_size he
    have hil : it < s.heap.objs.size := by obtain ⟨_, q, _⟩ := hit; exact Heap.lt_size q
    refine wpAny_pyNext_enum_item he hit p.isList (x := u) (by simpa using hu) hne fun h' ho hit' hT hsz hk => ?_
    refine ⟨_, rfl, wpAny_letOwnedTupleGo_enum (s := { s with heap := h', toks := s.toks + 1 }) ho fun h'' he' sb => ?_⟩
    have hT2 : h''.get? s.heap.objs.size = some { cls := .type "tuple", data := .seq #[.int i s.toks, u] } := (sb.2 _ (Nat.ne_of_gt hel)).trans hT
    have new : ObjOk X.prog X.w (upd H s.heap.objs.size (.tup [.int (i : Nat), x])) h'' s.heap.objs.size (.tup [.int (i : Nat), x]) :=
      ⟨by show 2 ≤ sizeLine; decide, [.int i s.toks, u], .cons ⟨_, rfl⟩ (.cons ru .nil), ⟨_, hT2, rfl, _, rfl⟩⟩
    have I1 : Inv X pins σ (upd H s.heap.objs.size (.tup [.int (i : Nat), x])) { s with heap := h'', toks := s.toks + 1 } :=
      I.turnedNew (ch := [e, it]) (fun b ob hb q => (sb.2 b (fun z => hb (by simp [z]))).trans (hk b ob (fun z => hb (by simp [z])) (fun z => hb (by simp [z])) q)) hf (Nat.le_refl _) new
    refine ⟨.ref s.heap.objs.size, _, I1, rfl, ⟨_, x, rfl, I.hok.fresh (Nat.le_refl _), rfl, fun ys hy => by rw [I.list_inj hy hq]; exact hx⟩, ⟨⟨u, ?_⟩, hit'.at fun o q => (sb.2 it (Ne.symm hne)).trans q, hne⟩, fun b hb => ?_⟩
    · have e1 : ((i + 1 : Nat) : Int) = (i : Int) + 1 := by omega
      rw [e1]; exact he'
    · have hb' : b < s.heap.objs.size := by
        have e' : b = e ∨ b = it := by simpa using hb
        rcases e' with z | z
        · rw [z]; exact hel
        · rw [z]; exact hil
      rw [upd_ne (Nat.ne_of_lt hb')]
      exact (hf b hb).1
  done := by
    intro X hP hw hK i pins s σ H E hot I hf st hg
    subst hP hw hK
    obtain ⟨⟨old, he⟩, hit, hne⟩ := st
    obtain ⟨xs, hq, hx⟩ := hg
    obtain ⟨its, rv, p, hz⟩ := I.list hq
    obtain ⟨f0, f1, f2, f3, f4, f5⟩ := hf it (by simp)
    have hl := rv.length
    exact next_enum_end_hot hot nx2 he hit p.isList (by simp; omega) fun h' eb => ⟨rfl, I.turned (t' := s.toks) (fun b o hb q => eb b o hb q) f0 f1 f3 f4 f5⟩
section
variable {X : Cx} {tg : Expr} {x1 : Addr}
theorem pix_list {l : Expr} {tl : TE} (hot : HotI X x1) (hl : PE X l tl) : PIX X tg l (iList X.K tl) x1 := by
  refine ⟨fun pins s σ H R I h => ?_⟩
  refine thn (hl.run pins s σ H _ I h) fun v s1 ⟨x, H1, I1, r1, q1⟩ => ?_
  obtain ⟨a, e, ⟨xs, hq⟩, q⟩ := q1
  subst e
  cases r1
  obtain ⟨its, rv, p, hz⟩ := I1.list hq
  refine wpAny_pyIter_list p.isList ?_
  refine ⟨s1.heap.objs.size, [s1.heap.objs.size], _, _, H1, rfl, I1.kept (t' := s1.toks) fun b o e => Heap.get?_push_of_some _ e, turnx_list a _ (hot.lt I1), ⟨_, Heap.get?_push_size _ rfl, rfl, rfl⟩, fun b hb => ?_, q⟩
  have e : b = s1.heap.objs.size := by simpa using hb
  subst e
  exact I1.fpOk (Nat.le_refl _) (I1.hok.fresh (Nat.le_refl _))
theorem pix_reversed {e : Expr} {ta : TA} {p pos : Pos} (hot : HotI X x1) (hg : Gl X "reversed") (hm : X.mg "reversed" = none) (ha : PA X [e] ta) (hs : starEach [e] X.env = [(false, eval e X.env)] := by rfl) : PIX X tg (.Call (.Name "reversed" p) [e] [] pos) (iRev X.K ta) x1 := by
  refine ⟨fun pins s σ H R I h => ?_⟩
  refine Call_ (ld_blt I hg hm PyProof.Rows.boot_reversed (PyProof.Rows.callWith_type1 (thn (ha.run pos pins s σ H _ I h) fun us s1 ⟨vs, H1, I1, r1, q1⟩ => ?_) hs rfl))
  obtain ⟨a, xs, e, hq, q⟩ := q1
  subst e
  cases r1 with
  | cons r rr =>
    cases rr
    cases r
    obtain ⟨its, rv, p', hz⟩ := I1.list hq
    have hl := rv.length
    have e1 : ((its.toArray.size : Nat) : Int) - 1 = (xs.length : Int) - 1 - ((0 : Nat) : Int) := by simp only [List.size_toArray]; omega
    refine call_reversed_list p'.isList (wpAny_pyIter_revIter (l := a) (i := ((its.toArray.size : Nat) : Int) - 1) ⟨_, Heap.get?_push_size _ rfl, rfl, rfl⟩ ?_)
    refine pix_one (tk := s1.toks) I1 _ (turnx_rev a _ xs.length (hot.lt I1)) ⟨Nat.zero_le _, ?_⟩ q
    rw [← e1]
    exact ⟨_, Heap.get?_push_size _ rfl, rfl, rfl⟩
theorem pix_enum {e : Expr} {ta : TA} {p pos tpos : Pos} {elts : List Expr} {kk : Nat} (hot : HotI X x1) (hg : Gl X "enumerate") (hm : X.mg "enumerate" = none) (ha : PA X [e] ta) (hs : starEach [e] X.env = [(false, eval e X.env)] := by rfl) :
    PIX X (.Tuple elts kk tpos) (.Call (.Name "enumerate" p) [e] [] pos) (iEnum X.K ta) x1 := by
  refine ⟨fun pins s σ H R I h => ?_⟩
  refine Call_ (ld_blt I hg hm boot_enumerate (PyProof.Rows.callWith_type1 (thn (ha.run pos pins s σ H _ I h) fun us s1 ⟨vs, H1, I1, r1, q1⟩ => ?_) hs rfl))
  obtain ⟨a, xs, ex, hq, q⟩ := q1
  subst ex
  cases r1 with
  | cons r rr =>
    cases rr
    cases r
    obtain ⟨its, rv, p', hz⟩ := I1.list hq
    refine call_enumerate_list p'.isList fun h' he hit hsz hk => wpAny_pyIter_enum he ?_
    have I2 : Inv X pins σ H1 { s1 with heap := h' } := I1.kept (t' := s1.toks) hk
    refine ⟨s1.heap.objs.size + 1, [s1.heap.objs.size + 1, s1.heap.objs.size], _, _, H1, rfl, I2, turnx_enum a (s1.heap.objs.size + 1) s1.heap.objs.size (Nat.ne_of_lt (Nat.lt_succ_of_lt (hot.lt2 I1))) (hot.lt I1), ⟨⟨.none, he⟩, hit, Nat.succ_ne_self _⟩, fun b hb => ?_, q⟩
    have e' : b = s1.heap.objs.size + 1 ∨ b = s1.heap.objs.size := by simpa using hb
    have hle : s1.heap.objs.size ≤ b := by
      rcases e' with z | z
      · rw [z]; exact Nat.le_add_right _ _
      · rw [z]; exact Nat.le_refl _
    exact I1.fpOk hle (I1.hok.fresh hle)
end
section
variable {X : Cx} {x1 : Addr}
theorem lcx_core {pins : List (Addr × Obj)} {s : Shared} {σ : L2.St} {H : Hp} {Q : VK} {elt tg iter : Expr} {ifs : List Expr} {scope : Scope} {own : List (Str × Nat)} {pos pos' : Pos} {wi : TI} {g : TG} {tt : TT} {te : TE} {use : Option (Value → Sem Unit)} {Qf : Value → Shared → Prop}
    (hot : HotI X x1) (hN : X.N.Nodup) (I : Inv X pins σ H s) (hi : PIX X tg iter wi x1) (ok : BlkOk X.N X.env.scope scope own)
    (hg : ∀ (s : Shared) (H : Hp) (C : Addr) (cl : List (Str × Addr)) (fp : List Addr), HotI (X.blk s H scope (compEnvC scope cl C X.env) fp) x1 → PG (X.blk s H scope (compEnvC scope cl C X.env) fp) tg g) (ht : ∀ (s : Shared) (H : Hp) (C : Addr) (cl : List (Str × Addr)) (fp : List Addr), PTs (X.blk s H scope (compEnvC scope cl C X.env) fp) ifs tt)
    (he : ∀ (s : Shared) (H : Hp) (C : Addr) (cl : List (Str × Addr)) (fp : List Addr), PE (X.blk s H scope (compEnvC scope cl C X.env) fp) elt te) (hs : ∀ x, foldedSetIterable iter X.env x = pure x)
    (h : tLc wi g tt te (own.map (·.2)) σ H Q)
    (hRR : ∀ D C s' m H', Inv X pins σ H' s' → Q (.ref D) H' → s'.heap.Ns C m → FpOk X pins H' C → compPost (model X.prog X.w) X.A X.xe use Qf (.ref D) C (.ok .next) s') :
    wpAny (model X.prog X.w) X.A (comprehension (.ListComp elt [⟨tg, iter, ifs, 0⟩] scope pos) scope X.env pos' (newList []) false (eval iter X.env) use) Qf X.xe s := by
  have hfree : ∀ y ∈ scope.names, y.2 = .free → ∃ c, X.env.cells.lookup y.1 = some c := fun y hy e => by
    rcases ok.free y hy e with k | k
    · exact I.ok.has _ (.inl k)
    · exact I.ok.has _ (.inr k)
  refine wpAny_comprehension_free (use := use) rfl hs (closure_ok hfree) ok.kind (fun y hy e => by rw [ok.uniq y hy, e])
    (thn (hi.run pins s σ H _ I h) fun xv s1 hx => thn hx fun itv s2 h2 => ?_)
  obtain ⟨it, fp, tn, J, H2, e, I2, T, st2, f2, q⟩ := h2
  subst e
  refine wpAny_newObj_type (newEnv_comp ?_) (by show 0 ≤ sizeLine; decide)
  generalize hD : s2.heap.objs.size = D
  have hDn : H2 D = none := I2.hok.fresh (Nat.le_of_eq hD)
  obtain ⟨W, ⟨m0, w0⟩, turn⟩ := q D hDn
  -- the new list
  generalize hs3 : ({ s2 with heap := s2.heap.push { cls := .type "list", data := .seq ([] : List Value).toArray } } : Shared) = s3
  have I3 : Inv X pins σ (upd H2 D (.lst [])) s3 := by
    rw [← hs3]
    refine I2.laid (t' := s2.toks) (fun b o e => Heap.get?_push_of_some _ e) (Nat.le_of_eq hD) ⟨Nat.zero_le _, [], 0, .nil, ?_⟩
    rw [← hD]
    exact Heap.get?_push_size _ rfl
  have h3 : s3.heap = s2.heap.push { cls := .type "list", data := .seq ([] : List Value).toArray } := by rw [← hs3]
  have sz : ∀ b ∈ fp, b < s2.heap.objs.size := fun b hb => by
    obtain ⟨o, e, _⟩ := T.T.obj _ _ st2 b hb
    exact Heap.lt_size e
  have f3 : ∀ b ∈ fp, FpOk X pins (upd H2 D (.lst [])) b ∧ b < s3.heap.objs.size := fun b hb => by
    have hlt := sz b hb
    refine ⟨⟨?_, (f2 b hb).2⟩, by rw [h3, Heap.size_push]; exact Nat.lt_succ_of_lt hlt⟩
    rw [upd_ne (by rw [← hD]; exact Nat.ne_of_lt hlt)]
    exact (f2 b hb).1
  have st3 : tn 0 s3.heap := T.T.keep _ _ _ st2 fun b _ o e => by rw [h3]; exact Heap.get?_push_of_some _ e
  have I4 := block_start I3 ok hN f3
  have hotB : HotI (X.blk s3 (upd H2 D (.lst [])) scope (compEnvC scope (cellsFrom (s3.heap.objs.size + 1) scope.names (cloFrom X.env.cells scope.names [])) s3.heap.objs.size X.env) fp) x1 := hot_blk hot I3 T.nx
  have pg := hg s3 (upd H2 D (.lst [])) s3.heap.objs.size (cellsFrom (s3.heap.objs.size + 1) scope.names (cloFrom X.env.cells scope.names [])) fp hotB
  have pt := ht s3 (upd H2 D (.lst [])) s3.heap.objs.size (cellsFrom (s3.heap.objs.size + 1) scope.names (cloFrom X.env.cells scope.names [])) fp
  have pe := he s3 (upd H2 D (.lst [])) s3.heap.objs.size (cellsFrom (s3.heap.objs.size + 1) scope.names (cloFrom X.env.cells scope.names [])) fp
  show codeAny _ _ (.compStart (.ListComp elt [⟨tg, iter, ifs, 0⟩] scope pos) 0 (.ref it) (.ref D) (compEnvC scope (cellsFrom (s3.heap.objs.size + 1) scope.names (cloFrom X.env.cells scope.names [])) s3.heap.objs.size X.env)) (compPost (model X.prog X.w) X.A X.xe use Qf (.ref D) s3.heap.objs.size) { s3 with heap := pushCells (s3.heap.push { cls := .type "dict", data := .dict #[] }) scope.names }
  have nfp : ∀ b ∈ fp, (upd H2 D (.lst [])) b = none := fun b hb => (f3 b hb).1.1
  generalize hce : compEnvC scope (cellsFrom (s3.heap.objs.size + 1) scope.names (cloFrom X.env.cells scope.names [])) s3.heap.objs.size X.env = ce at I4 pg pt pe hotB ⊢
  have cL : ce.locals = s3.heap.objs.size := by subst hce; rfl
  generalize hH3 : upd H2 D (.lst []) = H3 at I3 I4 pg pt pe w0 nfp f3 hotB
  generalize hs4 : ({ s3 with heap := pushCells (s3.heap.push { cls := .type "dict", data := .dict #[] }) scope.names } : Shared) = s4 at I4 ⊢
  have st4 : tn 0 s4.heap := T.T.keep _ _ _ st3 fun b _ o e => by rw [← hs4]; exact pushCells_keeps _ _ _ _ (Heap.get?_push_of_some _ e)
  have stat : ∀ {σ' : L2.St} {H' : Hp} {s' : Shared}, Inv (X.blk s3 H3 scope ce fp) [] σ' H' s' → (∀ b ∈ fp, H' b = none) → ∀ b ∈ fp, FpOk (X.blk s3 H3 scope ce fp) [] H' b := fun {σ' H' s'} I' hn b hb =>
    ⟨hn b hb, (I'.ok.exf b hb).1, I'.ok.exfs b hb, .inl hb, fun x c e => (I'.ok.exf b hb).2 x c e, fun p hp => absurd (show p ∈ ([] : List (Addr × Obj)) ++ [] from hp) (by simp)⟩
  have loop : codeAny (model X.prog X.w) X.A (.compLoop (.ListComp elt [⟨tg, iter, ifs, 0⟩] scope pos) 0 (.ref it) (.ref D) ce) (compPost (model X.prog X.w) X.A X.xe use Qf (.ref D) s3.heap.objs.size) s4 := by
    refine compLoop_any (fun n s' => ∃ i H', Inv (X.blk s3 H3 scope ce fp) [] (wipe σ (own.map (·.2))) H' s' ∧ tn i s'.heap ∧ (∀ b ∈ fp, H' b = none) ∧ W i n H') ?_ m0 ⟨0, H3, I4, st4, nfp, w0⟩
    rintro n s5 ⟨i, H5, I5, st5, n5, w5⟩
    rcases turn i n H5 w5 with ⟨stop, qq⟩ | ⟨go, Nx, hNx, step⟩
    · have td := T.done (X.blk s3 H3 scope ce fp) rfl rfl rfl i [] s5 _ H5 (fun _ _ => False) (hotB _ _ _ _ I5).1 I5 (stat I5 n5) st5 stop
      refine thnF td fun r s6 ⟨hr, I6⟩ => ?_
      subst hr
      -- back in the def's context
      have I7 : Inv X pins σ H5 s6 := I3.call' (ch := fp) I6.os I6.base I6.hok I6.bare fun b hb => ⟨(f3 b hb).1.2.2.2.1, (f3 b hb).1.2.1, (f3 b hb).1.2.2.2.2.1, (f3 b hb).1.2.2.2.2.2⟩
      have nC : H5 s3.heap.objs.size = none := by
        have z : H5 ce.locals = none := I6.free
        rw [cL] at z
        exact z
      obtain ⟨m, hn, _⟩ := I6.loc
      have hn : s6.heap.Ns ce.locals m := hn
      rw [cL] at hn
      exact hRR D s3.heap.objs.size s6 m H5 I7 qq hn (I3.fpOk (Nat.le_refl _) nC)
    · have ti := T.item (X.blk s3 H3 scope ce fp) rfl rfl rfl i [] s5 _ H5 (fun _ _ => False) (hotB _ _ _ _ I5).1 I5 (stat I5 n5) st5 go
      refine thnF ti fun r s6 ⟨u, hr, h6⟩ => ?_
      subst hr
      refine thnF h6 fun _ s7 ⟨x, H7, I7, r7, y7, st7, n7⟩ => ?_
      have I7' := I7.pinned (stat I7 n7) (T.T.obj _ _ st7)
      refine thnF (pg.run _ s7 _ H7 x u _ I7' r7 (step x H7 y7)) fun _ s8 ⟨σ8, H8, I8, hw8, q8⟩ => ?_
      refine thnF (pt.run _ s8 σ8 H8 _ I8 q8) fun b s9 ⟨H9, I9, q9⟩ => ?_
      -- the turn's end
      have fin : ∀ {s' : Shared} {H' : Hp}, Inv (X.blk s3 H3 scope ce fp) ([] ++ pinsAt fp s7.heap) σ8 H' s' → Nx H' → ∃ m, m < n ∧ ∃ i H', Inv (X.blk s3 H3 scope ce fp) [] (wipe σ (own.map (·.2))) H' s' ∧ tn i s'.heap ∧ (∀ b ∈ fp, H' b = none) ∧ W i m H' := fun {s' H'} I' nx => by
        obtain ⟨m', hm, w'⟩ := hNx H' nx
        have pin' : ∀ b ∈ fp, ∀ o, s7.heap.get? b = some o → s'.heap.get? b = some o ∧ H' b = none := fun b hb o e =>
          let z := I'.pin (b, o) (List.mem_append_right _ (List.mem_append_right _ (mem_pinsAt hb e)))
          ⟨z.1, z.2.1⟩
        have hl : (wipe σ (own.map (·.2))).length = σ8.length := by rw [← hw8, wipe_length]
        refine ⟨m', hm, i + 1, H', (I'.unpinned (pins := [])).weak hl (fun j v e => ?_), T.T.keep _ _ _ st7 fun b hb o e => (pin' b hb o e).1, fun b hb => ?_, w'⟩
        · rw [← hw8] at e
          exact (wipe_some e).1
        · obtain ⟨o, e, _⟩ := T.T.obj _ _ st7 b hb
          exact (pin' b hb o e).2
      cases b with
      | false =>
        simp only [Bool.false_eq_true, if_false] at q9 ⊢
        exact fin I9 q9
      | true =>
        simp only [if_true] at q9 ⊢
        refine thnF (pe.run _ s9 σ8 H9 _ I9 q9) fun z s10 ⟨yv, H10, I10, r10, acc, hD10, hz10, nx⟩ => ?_
        exact app_ok (X := X.blk s3 H3 scope ce fp) I10 hD10 hz10 r10 fun s11 I11 => fin I11 nx
  exact codeAny_compStart_list loop (T.T.self X.A 0 _ _ _ st4 loop)
theorem pe_lcX {elt tg iter : Expr} {ifs : List Expr} {scope : Scope} {own : List (Str × Nat)} {pos : Pos} {wi : TI} {g : TG} {tt : TT} {te : TE} (hot : HotI X x1) (hN : X.N.Nodup) (hi : PIX X tg iter wi x1) (ok : BlkOk X.N X.env.scope scope own)
    (hg : ∀ (s : Shared) (H : Hp) (C : Addr) (cl : List (Str × Addr)) (fp : List Addr), HotI (X.blk s H scope (compEnvC scope cl C X.env) fp) x1 → PG (X.blk s H scope (compEnvC scope cl C X.env) fp) tg g) (ht : ∀ (s : Shared) (H : Hp) (C : Addr) (cl : List (Str × Addr)) (fp : List Addr), PTs (X.blk s H scope (compEnvC scope cl C X.env) fp) ifs tt)
    (he : ∀ (s : Shared) (H : Hp) (C : Addr) (cl : List (Str × Addr)) (fp : List Addr), PE (X.blk s H scope (compEnvC scope cl C X.env) fp) elt te) (hs : ∀ x, foldedSetIterable iter X.env x = pure x := by intro _; rfl) :
    PE X (.ListComp elt [⟨tg, iter, ifs, 0⟩] scope pos) (tLc wi g tt te (own.map (·.2))) := by
  refine ⟨fun pins s σ H Q I h => ?_⟩
  rw [eval_ListComp]
  refine lcx_core hot hN I hi ok hg ht he hs h fun D C s' m H' I' q hn f => ⟨m, hn, fun h'' sb => ?_⟩
  obtain ⟨f0, f1, f2, f3, f4, f5⟩ := f
  exact ⟨.ref D, H', I'.turned (t' := s'.toks) (fun b o hb e => (sb.2 b hb).trans e) f0 f1 f3 f4 f5, rfl, q⟩
theorem ps_setLcX {i : Nat} {y : Str} {py : Pos} {elt tg iter : Expr} {ifs : List Expr} {scope : Scope} {own : List (Str × Nat)} {pos spos : Pos} {wi : TI} {g : TG} {tt : TT} {te : TE} (hot : HotI X x1) (hN : X.N.Nodup) (hy : X.N[i]? = some y) (hyl : X.env.scope.names.lookup y = some .local)
    (hsw : swapsWith (.ListComp elt [⟨tg, iter, ifs, 0⟩] scope pos) (some (.Name y py)) spos.line X.env = pure true) (hi : PIX X tg iter wi x1) (ok : BlkOk X.N X.env.scope scope own)
    (hg : ∀ (s : Shared) (H : Hp) (C : Addr) (cl : List (Str × Addr)) (fp : List Addr), HotI (X.blk s H scope (compEnvC scope cl C X.env) fp) x1 → PG (X.blk s H scope (compEnvC scope cl C X.env) fp) tg g) (ht : ∀ (s : Shared) (H : Hp) (C : Addr) (cl : List (Str × Addr)) (fp : List Addr), PTs (X.blk s H scope (compEnvC scope cl C X.env) fp) ifs tt)
    (he : ∀ (s : Shared) (H : Hp) (C : Addr) (cl : List (Str × Addr)) (fp : List Addr), PE (X.blk s H scope (compEnvC scope cl C X.env) fp) elt te) (hs : ∀ x, foldedSetIterable iter X.env x = pure x := by intro _; rfl) :
    PS X (.Assign [.Name y py] (.ListComp elt [⟨tg, iter, ifs, 0⟩] scope pos) spos) (tAsg (tLc wi g tt te (own.map (·.2))) (gName i)) := by
  refine ⟨fun pins s σ H D I h => ?_⟩
  rw [exec_Assign_Name_used _ _ _ _ hsw]
  refine wpAny_bind (wpAny_standAt (wpAny_bind ?_))
  show wpAny _ X.A (do let _ ← comprehension (.ListComp elt [⟨tg, iter, ifs, 0⟩] scope pos) scope X.env (firstIterPos [⟨tg, iter, ifs, 0⟩] pos) (newList []) false (eval iter X.env) (some (assign (.Name y py) X.env))) _ _ s
  have h : tLc wi g tt te (own.map (·.2)) σ H (fun x H1 => gName i x σ H1 D.nx) := h
  refine wpAny_bind (thn (lcx_core (Qf := fun _ s' => SP X pins D .next s') hot hN I hi ok hg ht he hs h fun L C s' m H' I' q hn f => ?_) fun _ s' hq => wpAny_pure (wpAny_pure hq))
  show wpAny _ _ (assign (.Name y py) X.env (.ref L)) _ _ _
  refine wpAny_assign_Name (store_ok2 (v := V.ref L) I' hN hy (.inl hyl) rfl (fun s2 I2 ⟨a, sb, ha⟩ => ?_) (.inr hyl))
  obtain ⟨f0, f1, f2, f3, f4, f5⟩ := f
  have haC : C ≠ a := by
    rcases ha with z | z
    · rw [z]; exact f1
    · exact fun e => f4 y a z e.symm
  refine ⟨m, hn.sameBut sb haC, fun h3 sb3 => ?_⟩
  exact ⟨_, H', I2.turned (t' := s2.toks) (fun b o hb e => (sb3.2 b hb).trans e) f0 f1 f3 f4 f5, q⟩
theorem ps_parX {i j : Nat} {x y : Str} {a b : Expr} {ta : TA} {px py pt : Pos} {kt k2 pt2} (hot : HotI X x1) (hN : X.N.Nodup) (hi : X.N[i]? = some x) (hj : X.N[j]? = some y) (hij : i ≠ j)
    (hx : X.env.scope.names.lookup x = some .local) (hy : X.env.scope.names.lookup y = some .local) (ha : PA X [a, b] ta)
    (hw : swappedStores [.Tuple [.Name x px, .Name y py] kt pt] (.Tuple [a, b] k2 pt2) X.env = pure (some [x, y]))
    (hs : swapsWithSole [.Tuple [.Name x px, .Name y py] kt pt] (.Tuple [a, b] k2 pt2) pos.line X.env = pure false := by rfl) :
    PS X (.Assign [.Tuple [.Name x px, .Name y py] kt pt] (.Tuple [a, b] k2 pt2) pos) (tPar i j ta) := by
  refine ⟨fun pins s σ H D I h => ?_⟩
  rw [exec_Assign_arm]
  refine wpAny_bind (wpAny_standAt ?_)
  rw [hs]
  refine wpAny_bind (wpAny_pure ?_)
  rw [if_neg (by decide)]
  refine wpAny_bind (Tuple_ (thn (ha.run _ pins s σ H _ I h) fun us s1 ⟨vs, H1, I1, r1, q1⟩ => ?_))
  obtain ⟨v, w, e1, q1⟩ := q1
  subst e1
  obtain ⟨u1, u2, rfl, rv, rw'⟩ : ∃ u1 u2, us = [u1, u2] ∧ RelV v u1 ∧ RelV w u2 := by
    cases r1 with
    | cons p q =>
      cases q with
      | cons p' q' =>
        cases q'
        exact ⟨_, _, rfl, p, p'⟩
  refine wpAny_newObj_type ?_ (by show 2 ≤ sizeLine; decide)
  have I2 : Inv X pins σ H1 { s1 with heap := s1.heap.push { cls := .type "tuple", data := .seq [u1, u2].toArray } } := I1.kept (t' := s1.toks) fun b o e => Heap.get?_push_of_some _ e
  rw [hw]
  refine wpAny_bind (wpAny_pure ?_)
  show wpAny (model X.prog X.w) X.A (do rule "assign.swapped-stores"; let items ← unpackItems (.ref s1.heap.objs.size) 2 none; assignInOrder [fun v => bindName X.env y v, fun v => bindName X.env x v] items.reverse; pure Flow.next) _ _ _
  refine wpAny_bind (wpAny_rule (wpAny_bind (unpackItems_tuple_hot (items := #[u1, u2]) (hot _ _ _ _ I2).1 (IsTup.new s1.heap _) fun h' hx' => ?_)))
  have I3 := I2.kept (h' := h') (t' := s1.toks) fun b o e => hx' b o (Nat.ne_of_lt (Heap.lt_size e)) e
  show wpAny _ _ (assignInOrder [fun v => bindName X.env y v, fun v => bindName X.env x v] [u2, u1] >>= fun _ => pure Flow.next) _ _ _
  refine wpAny_bind (assignInOrder_cons (wpAny_bindName (store_ok I3 hN hj (.inl hy) rw' (fun s2 I4 => ?_) (.inr hy))))
  refine assignInOrder_cons (wpAny_bindName (store_ok I4 hN hi (.inl hx) rv (fun s3 I5 => assignInOrder_nil (wpAny_pure ?_)) (.inr hx)))
  rw [List.set_comm _ _ (Ne.symm hij)] at I5
  exact ⟨_, H1, I5, q1⟩
theorem pm_case1X {z a : Str} {k i : Nat} {p1 p2 p3 p4 : Pos} {body : List Stmt} {rest : List MatchCase} {tb : L2.TS} {tr : V → L2.TS} (hot : HotI X x1) (hN : X.N.Nodup) (hi : X.N[i]? = some a) (hl : X.env.scope.names.lookup a = some .local)
    (hb : PSs X body tb) (hr : PM X rest tr) : PM X (⟨.MatchSequence [.MatchValue (.Constant (.str z) k p1) p2, .MatchAs none (some a) p3] p4, none, body⟩ :: rest) (tCase X.K z 1 (set1 i tb) tr) := by
  refine ⟨fun pins s σ H D x v first I r h => ?_⟩
  obtain ⟨p, y, ys, rfl, hq, h⟩ := h
  obtain rfl : v = Value.ref p := r
  obtain ⟨its, rv, p', hz⟩ := I.tuple hq
  have hlen := rv.length
  have hz' : its.length ≤ sizeLine := by rw [← hlen]; exact hz
  by_cases hn : its.toArray.size = 2
  · refine wpAny_matchCases_cons (matchSeq_tuple_hit p' (fits63 hz') hn ?_)
    show wpAny _ _ (unpackItems (.ref p) 2 none) _ _ _
    rw [← hn]
    refine unpackItems_tuple_hot (hot _ _ _ _ I).1 p' fun h' hx' => ?_
    have I2 : Inv X pins σ H { s with toks := s.toks + 1 + 1, heap := h' } := I.kept (h' := h') (t' := s.toks + 1 + 1) fun b o e => hx' b o (Nat.ne_of_lt (Heap.lt_size e)) e
    have hn' : ys.length = 1 := by
      rw [List.size_toArray, ← hlen, List.length_cons] at hn
      omega
    cases rv with
    | @cons _ u0 _ us r0 rs =>
      obtain ⟨v1, rfl⟩ : ∃ v1, ys = [v1] := List.length_eq_one_iff.mp hn'
      cases rs with
      | @cons _ u1 _ us' r1 rs' =>
        cases rs'
        refine wpAny_matchEach_cons (lit_eq I2 r0 (fun e s3 I3 => ?_) (fun e s3 I3 => ?_))
        · refine wpAny_matchEach_cons (wpAny_matchPattern_Capture (wpAny_matchEach_nil ?_))
          rcases h with ⟨_, _, v', e', hb'⟩ | ⟨hne, _⟩
          · cases e'
            refine wpAny_assignInOrder_more (wpAny_bindName (store_ok I3 hN hi (.inl hl) r1 (fun s4 I4 => ?_) (.inr hl)))
            exact wpAny_assignInOrder_none (hb.run pins s4 _ H D I4 hb')
          · rcases hne with h1 | h1
            · exact absurd e h1
            · exact absurd rfl h1
        · rcases h with ⟨e', _⟩ | ⟨_, ht⟩
          · exact absurd e' e
          · exact hr.run pins s3 σ H D (.ref p) (Value.ref p) false I3 rfl ht
  · refine wpAny_matchCases_cons (matchSeq_tuple_miss p' (fits63 hz') hn ?_)
    rcases h with ⟨_, hl', _⟩ | ⟨_, ht⟩
    · refine absurd ?_ hn
      rw [List.size_toArray, ← hlen, List.length_cons, hl']
    · exact hr.run pins _ σ H D (.ref p) (Value.ref p) false (I.tok _) rfl ht
theorem pm_case2X {z a b : Str} {k i j : Nat} {p1 p2 p3 p4 p5 : Pos} {body : List Stmt} {rest : List MatchCase} {tb : L2.TS} {tr : V → L2.TS} (hot : HotI X x1) (hN : X.N.Nodup) (hi : X.N[i]? = some a) (hl : X.env.scope.names.lookup a = some .local) (hj : X.N[j]? = some b) (hl2 : X.env.scope.names.lookup b = some .local)
    (hb : PSs X body tb) (hr : PM X rest tr) : PM X (⟨.MatchSequence [.MatchValue (.Constant (.str z) k p1) p2, .MatchAs none (some a) p3, .MatchAs none (some b) p5] p4, none, body⟩ :: rest) (tCase X.K z 2 (set2 i j tb) tr) := by
  refine ⟨fun pins s σ H D x v first I r h => ?_⟩
  obtain ⟨p, y, ys, rfl, hq, h⟩ := h
  obtain rfl : v = Value.ref p := r
  obtain ⟨its, rv, p', hz⟩ := I.tuple hq
  have hlen := rv.length
  have hz' : its.length ≤ sizeLine := by rw [← hlen]; exact hz
  by_cases hn : its.toArray.size = 3
  · refine wpAny_matchCases_cons (matchSeq_tuple_hit p' (fits63 hz') hn ?_)
    show wpAny _ _ (unpackItems (.ref p) 3 none) _ _ _
    rw [← hn]
    refine unpackItems_tuple_hot (hot _ _ _ _ I).1 p' fun h' hx' => ?_
    have I2 : Inv X pins σ H { s with toks := s.toks + 1 + 1, heap := h' } := I.kept (h' := h') (t' := s.toks + 1 + 1) fun b o e => hx' b o (Nat.ne_of_lt (Heap.lt_size e)) e
    have hn' : ys.length = 2 := by
      rw [List.size_toArray, ← hlen, List.length_cons] at hn
      omega
    cases rv with
    | @cons _ u0 _ us r0 rs =>
      obtain ⟨v1, v2, rfl⟩ : ∃ v1 v2, ys = [v1, v2] := match ys, hn' with | [v1, v2], _ => ⟨v1, v2, rfl⟩
      cases rs with
      | @cons _ u1 _ us' r1 rs' =>
        cases rs' with
        | @cons _ u2 _ us2 r2 rs2 =>
          cases rs2
          refine wpAny_matchEach_cons (lit_eq I2 r0 (fun e s3 I3 => ?_) (fun e s3 I3 => ?_))
          · refine wpAny_matchEach_cons (wpAny_matchPattern_Capture (wpAny_matchEach_cons (wpAny_matchPattern_Capture (wpAny_matchEach_nil ?_))))
            rcases h with ⟨_, _, v', w', e', hb'⟩ | ⟨hne, _⟩
            · cases e'
              refine wpAny_assignInOrder_more (wpAny_bindName (store_ok I3 hN hi (.inl hl) r1 (fun s4 I4 => ?_) (.inr hl)))
              refine wpAny_assignInOrder_more (wpAny_bindName (store_ok I4 hN hj (.inl hl2) r2 (fun s5 I5 => ?_) (.inr hl2)))
              exact wpAny_assignInOrder_none (hb.run pins s5 _ H D I5 hb')
            · rcases hne with h1 | h1
              · exact absurd e h1
              · exact absurd rfl h1
          · rcases h with ⟨e', _⟩ | ⟨_, ht⟩
            · exact absurd e' e
            · exact hr.run pins s3 σ H D (.ref p) (Value.ref p) false I3 rfl ht
  · refine wpAny_matchCases_cons (matchSeq_tuple_miss p' (fits63 hz') hn ?_)
    rcases h with ⟨_, hl', _⟩ | ⟨_, ht⟩
    · refine absurd ?_ hn
      rw [List.size_toArray, ← hlen, List.length_cons, hl']
    · exact hr.run pins _ σ H D (.ref p) (Value.ref p) false (I.tok _) rfl ht
theorem cr_anyX (hot : HotI X x1) : CallR X (.builtin "any") (rAny X.K) := by
  intro pins s σ H vs us Q I r h
  obtain ⟨a, bs, rfl, hs, q⟩ := h
  obtain ⟨its, rv, hl, _⟩ := I.list hs
  rw [Vals.ref1 r]
  have hb := rv.bls
  refine call_any_walk (iter_any hl.isList fun s₂ e2 st hne => ?_)
  subst e2
  refine ⟨_, _, _, _, _, _, _, rfl, walks_hot (A := X.A.in1) (x1 := x1) _ a (hot.lt I) hne its.toArray, ⟨st.1, st.2, by
    obtain ⟨hh, o1, vs1, h1, d1, c1⟩ := (hot _ _ _ _ I).1
    exact ⟨hh, o1, vs1, Heap.get?_push_of_some _ h1, d1, c1⟩⟩, truth_bools hb, fun h' tk hk => ?_⟩
  refine ⟨.bl _, H, I.kept fun b o eo => hk b o (fun hmem => ?_) (Heap.get?_push_of_some _ eo), ?_, q⟩
  · rcases List.mem_cons.mp hmem with e1 | hmem
    · exact absurd (e1 ▸ Heap.lt_size eo) (Nat.lt_irrefl _)
    · cases hmem
  · show Value.bool _ = Value.bool _
    rw [← L2.any_range, hb, List.size_toArray, List.length_map]
theorem cr_allX (hot : HotI X x1) : CallR X (.builtin "all") (rAll X.K) := by
  intro pins s σ H vs us Q I r h
  obtain ⟨a, bs, rfl, hs, q⟩ := h
  obtain ⟨its, rv, hl, _⟩ := I.list hs
  rw [Vals.ref1 r]
  have hb := rv.bls
  refine call_all_walk (iter_any hl.isList fun s₂ e2 st hne => ?_)
  subst e2
  refine ⟨_, _, _, _, _, _, _, rfl, walks_hot (A := X.A.in1) (x1 := x1) _ a (hot.lt I) hne its.toArray, ⟨st.1, st.2, by
    obtain ⟨hh, o1, vs1, h1, d1, c1⟩ := (hot _ _ _ _ I).1
    exact ⟨hh, o1, vs1, Heap.get?_push_of_some _ h1, d1, c1⟩⟩, truth_bools hb, fun h' tk hk => ?_⟩
  refine ⟨.bl _, H, I.kept fun b o eo => hk b o (fun hmem => ?_) (Heap.get?_push_of_some _ eo), ?_, q⟩
  · rcases List.mem_cons.mp hmem with e1 | hmem
    · exact absurd (e1 ▸ Heap.lt_size eo) (Nat.lt_irrefl _)
    · cases hmem
  · show Value.bool _ = Value.bool _
    rw [← L2.all_range, hb, List.size_toArray, List.length_map]
theorem pe_lenSetX {a : Expr} {ta : TE} {p p2 q pos : Pos} (hg : Gl X "len") (hm : X.mg "len" = none) (hg2 : Gl X "set") (hm2 : X.mg "set" = none) (ha : PE X a ta) (hot : HotI X x1)
    (na : starEach [a] X.env = (false, eval a X.env) :: starEach [] X.env := by rfl) : PE X (.Call (.Name "len" p) [.Call (.Name "set" p2) [a] [] q] [] pos) (tLenSetG X.K ta) := by
  refine ⟨fun pins s σ H Q I h => ?_⟩
  refine Call_ (ld_blt I hg hm boot_len ?_)
  refine PyProof.Rows.callWith_builtin1 (PyProof.Rows.args_cons ?_ rfl) rfl rfl
  refine Call_ (ld_blt I hg2 hm2 boot_set ?_)
  refine PyProof.Rows.callWith_type1 (PyProof.Rows.args_cons (thn (ha.run pins s σ H _ I h) fun v s1 ⟨x, H1, I1, r1, q1⟩ => PyProof.Rows.args_nil ?_) na) na rfl
  obtain ⟨l, ns, rfl, hq, hl, q1⟩ := q1
  cases r1
  obtain ⟨its, r, pl, hz⟩ := I1.list hq
  have hlen : its.toArray.size = ns.length := by rw [List.size_toArray, ← r.length, List.length_map]
  refine call_set_hot (hot _ _ _ _ I1).1 pl.isList (by simpa using RZ.intsAre_vals r) (by rw [hlen]; unfold scanBound; omega) fun h' tk hS hk => ?_
  refine PyProof.Rows.args_nil ?_
  rw [hlen] at hS
  obtain ⟨o, es, ep, t, ho, hex, hd, _, _, _, hf, hn⟩ := hS
  have I2 : Inv X pins σ H1 { s1 with heap := h', toks := tk } := I1.kept fun b o e => hk b o (Heap.lt_size e) e
  have hle := firstMet_length_le (fun i => ns.getD i 0) ns.length
  exact call_len_set ho hex hd hf (by rw [hn] <;> omega) ⟨.int ((firstMet (fun i => ns.getD i 0) ns.length).length : Nat), H1, I2.tok _, ⟨_, by rw [hn]⟩, q1⟩
theorem ps_forX {tg iter : Expr} {body : List Stmt} {wi : TI} {g : TG} {tb : L2.TS} {pos : Pos} (hp : PassesOwn (model X.prog X.w) X.A X.env X.xe) (hot : HotI X x1) (hi : PIX X tg iter wi x1) (hg : PG X tg g) (hb : PSs X body tb)
    (hs : ∀ x, foldedSetIterable iter X.env x = pure x := by intro _; rfl) : PS X (.For tg iter body [] pos) (tFor wi g tb) := by
  refine ⟨fun pins s σ H D I h => ?_⟩
  refine wpAny_For (thn (hi.run pins s σ H _ I h) fun v s1 h1 => thn h1 fun itv s2 h2 => ?_) hs
  obtain ⟨it, fp, tn, J, H2, e, I2, T, st2, f2, W, ⟨m0, w0⟩, turn⟩ := h2
  subst e
  -- what stays true of the iterator's objects through the loop
  have stat : ∀ {H' : Hp}, (∀ b ∈ fp, H' b = none) → ∀ b ∈ fp, FpOk X pins H' b := fun hn b hb => ⟨hn b hb, (f2 b hb).2⟩
  refine codeAny_forLoop_any (fun n s' => ∃ i σ' H', Inv X pins σ' H' s' ∧ tn i s'.heap ∧ (∀ b ∈ fp, H' b = none) ∧ W i n σ' H') ?_ m0 ⟨0, σ, H2, I2, st2, fun b hb => (f2 b hb).1, w0⟩
  rintro n s3 ⟨i, σ3, H3, I3, st3, fr3, w3⟩
  rcases turn i n σ3 H3 w3 with ⟨stop, qn⟩ | ⟨go, N, hN, step⟩
  · refine wpAny_passesOwn hp (thn (T.done X rfl rfl rfl i pins s3 σ3 H3 X.xe (hot _ _ _ _ I3).1 I3 (stat fr3) st3 stop) fun r s4 ⟨hr, I4⟩ => ?_)
    subst hr
    exact wpAny_execs_nil ⟨σ3, H3, I4, qn⟩
  · refine wpAny_passesOwn hp (thn (T.item X rfl rfl rfl i pins s3 σ3 H3 X.xe (hot _ _ _ _ I3).1 I3 (stat fr3) st3 go) fun r s4 ⟨u, hr, h4⟩ => ?_)
    subst hr
    refine wpAny_passesOwn hp (thn h4 fun _ s5 ⟨x, H5, I5, r5, y5, st5, fr5⟩ => ?_)
    have I5' := I5.pinned (stat fr5) (T.T.obj _ _ st5)
    refine wpAny_passesOwn hp (thn (hg.run _ s5 σ3 H5 x u _ I5' r5 (step x H5 y5)) fun _ s6 ⟨σ6, H6, I6, q6⟩ => ?_)
    refine wpAny_passesOwn hp (thn (hb.run _ s6 σ6 H6 _ I6 q6) fun f s7 q7 => ?_)
    have again : ∀ {σ7 : L2.St} {H7 : Hp}, Inv X (pins ++ pinsAt fp s5.heap) σ7 H7 s7 → N σ7 H7 → ∃ m, m < n ∧ ∃ i σ' H', Inv X pins σ' H' s7 ∧ tn i s7.heap ∧ (∀ b ∈ fp, H' b = none) ∧ W i m σ' H' := fun {σ7 H7} I7 n7 => by
      obtain ⟨m', hm, w7⟩ := hN σ7 H7 n7
      refine ⟨m', hm, i + 1, σ7, H7, I7.unpinned, T.T.keep _ _ _ st5 fun b hb o e => (I7.pin (b, o) (List.mem_append_right _ (List.mem_append_right _ (mem_pinsAt hb e)))).1, fun b hb => ?_, w7⟩
      obtain ⟨o, e, d⟩ := T.T.obj _ _ st5 b hb
      exact (I7.pin (b, o) (List.mem_append_right _ (List.mem_append_right _ (mem_pinsAt hb e)))).2.1
    cases f with
    | next => obtain ⟨σ7, H7, I7, n7⟩ := q7; exact again I7 n7
    | cont => obtain ⟨σ7, H7, I7, n7⟩ := q7; exact again I7 n7
    | brk => obtain ⟨σ7, H7, I7, q7⟩ := q7; exact ⟨σ7, H7, I7.unpinned, q7⟩
    | ret v => obtain ⟨x7, σ7, H7, I7, r7, q7⟩ := q7; exact ⟨x7, σ7, H7, I7.unpinned, r7, q7⟩
end

end Gm

set_option maxRecDepth 100000
set_option maxHeartbeats 4000000
/-! defs called where an exception is handled -/
namespace L2H
open PySem PySem.Spec PyProof.Rows L2
theorem RoomH.units {k : Nat} {A : Around} (r : RoomH k A) : A.units + 64 < cLine := by have := r.un; omega
end L2H
namespace Gm
open PySem PySem.Spec PyProof.Rows L2 L2H HotX
theorem hotI_of {X : Cx} {p : Addr × Obj} (h : Hot1 X.A p) (hp : p ∈ X.pn) : HotI X p.1 := by
  intro pins σ H s I
  obtain ⟨hh, vs, e, c⟩ := h
  obtain ⟨h1, h2, h3, h4, _⟩ := I.pin p (List.mem_append_left _ hp)
  exact ⟨⟨hh, p.2, vs, h1, e, c⟩, h2, h3, h4⟩
section
variable {P : Program} {w : World} {K : PySem.W.Frag} {mg : Str → Option Value} {base : Heap}
theorem okH {CX : CXT} {x qual : Str} {st : Stmt} {f : Addr} {fd : FuncData} {N ps : List Str} {k : Nat} {sp : Sp} (F : Fun K x qual st f fd) (S : FnScope N ps (defScope st)) (len : ∀ vs H Q E, sp vs H Q E → vs.length = ps.length)
    (hbody : ∀ (cdv : Value) (A : Around) (outer : List Env) (s : Shared) (H : Hp) (vs : List V) (Q : VK) (E : XK) (p : Addr × Obj), HotI (cxH CX P w K mg base N qual (defScope st) f cdv A outer s H E p) p.1 → HotC (cxH CX P w K mg base N qual (defScope st) f cdv A outer s H E p) →
      RoomH k (A.deeper (envOfC qual (defScope st) s.heap.objs.size f cdv)) → sp vs H Q E →
      ∃ t, PSs (cxH CX P w K mg base N qual (defScope st) f cdv A outer s H E p) (defBody st) t ∧ t { nx := fun _ H' => Q .non H', rt := Q } (L2.start N vs) H) : FnH P w K mg base CX (k + 1) f fd ps sp := by
  obtain ⟨oc, od, kV, doc, pm, an, cdv, ct, osl, rfl, lk, hcd⟩ := F.ex
  refine fn_ofH lk hcd S len fun A outer s H vs Q E p hot hr hsp => ?_
  have h1 : Hot1 (cxH CX P w K mg base N qual (defScope st) f cdv A outer s H E p).A p := hot
  have h2 : p ∈ (cxH CX P w K mg base N qual (defScope st) f cdv A outer s H E p).pn := List.mem_singleton.mpr rfl
  exact hbody cdv A outer s H vs Q E p (hotI_of h1 h2) ⟨p, h1, h2⟩ hr hsp
end
end Gm

set_option maxRecDepth 100000
set_option maxHeartbeats 4000000
namespace G1
open PySem PySem.Spec PyProof.Rows L2 Gm
def top (i : Nat) : Stmt := PySem.Challenge.pw_groupmarks_k05_ways_walked.main.body.getD i (.Pass ⟨0, 0, 0, 0⟩)
abbrev s_parts : Stmt := top 8
abbrev N_parts : List Str := ["pattern", "found", "waiting", "part"]
theorem sc_parts : FnScope N_parts ["pattern"] (defScope s_parts) := ⟨rfl, rfl, rfl, by decide +kernel, rfl, by decide +kernel, by decide +kernel⟩

abbrev s_checked : Stmt := top 9
abbrev N_checked : List Str := ["pattern", "found"]
theorem sc_checked : FnScope N_checked ["pattern"] (defScope s_checked) := ⟨rfl, rfl, rfl, by decide +kernel, rfl, by decide +kernel, by decide +kernel⟩

abbrev s__has_form : Stmt := top 10
abbrev N__has_form : List Str := ["thing", "name"]
theorem sc__has_form : FnScope N__has_form ["thing"] (defScope s__has_form) := ⟨rfl, rfl, rfl, by decide +kernel, rfl, by decide +kernel, by decide +kernel⟩

abbrev s__is_sign : Stmt := top 11
abbrev N__is_sign : List Str := ["thing"]
theorem sc__is_sign : FnScope N__is_sign ["thing"] (defScope s__is_sign) := ⟨rfl, rfl, rfl, by decide +kernel, rfl, by decide +kernel, by decide +kernel⟩

abbrev s__is_group_number : Stmt := top 12
abbrev N__is_group_number : List Str := ["thing"]
theorem sc__is_group_number : FnScope N__is_group_number ["thing"] (defScope s__is_group_number) := ⟨rfl, rfl, rfl, by decide +kernel, rfl, by decide +kernel, by decide +kernel⟩

abbrev s__inner : Stmt := top 13
abbrev N__inner : List Str := ["part"]
theorem sc__inner : FnScope N__inner ["part"] (defScope s__inner) := ⟨rfl, rfl, rfl, by decide +kernel, rfl, by decide +kernel, by decide +kernel⟩

abbrev s__numbers_among : Stmt := top 14
abbrev N__numbers_among : List Str := ["found", "part"]
theorem sc__numbers_among : FnScope N__numbers_among ["found"] (defScope s__numbers_among) := ⟨rfl, rfl, rfl, by decide +kernel, rfl, by decide +kernel, by decide +kernel⟩

abbrev s__has_twins : Stmt := top 15
abbrev N__has_twins : List Str := ["many"]
theorem sc__has_twins : FnScope N__has_twins ["many"] (defScope s__has_twins) := ⟨rfl, rfl, rfl, by decide +kernel, rfl, by decide +kernel, by decide +kernel⟩

abbrev s__takings : Stmt := top 16
abbrev N__takings : List Str := ["found", "takings", "open_answers", "part", "inner_answers", "answer", "_"]
theorem sc__takings : FnScope N__takings ["found"] (defScope s__takings) := ⟨rfl, rfl, rfl, by decide +kernel, rfl, by decide +kernel, by decide +kernel⟩

abbrev s__may_take_nothing : Stmt := top 17
abbrev N__may_take_nothing : List Str := ["name", "inner_answers"]
theorem sc__may_take_nothing : FnScope N__may_take_nothing ["name", "inner_answers"] (defScope s__may_take_nothing) := ⟨rfl, rfl, rfl, by decide +kernel, rfl, by decide +kernel, by decide +kernel⟩

abbrev s__has_empty_round : Stmt := top 18
abbrev N__has_empty_round : List Str := ["found", "takings", "at", "part"]
theorem sc__has_empty_round : FnScope N__has_empty_round ["found"] (defScope s__has_empty_round) := ⟨rfl, rfl, rfl, by decide +kernel, rfl, by decide +kernel, by decide +kernel⟩

abbrev s_first_state : Stmt := top 20
abbrev N_first_state : List Str := ["pattern"]
theorem sc_first_state : FnScope N_first_state ["pattern"] (defScope s_first_state) := ⟨rfl, rfl, rfl, by decide +kernel, rfl, by decide +kernel, by decide +kernel⟩

abbrev s_is_end : Stmt := top 21
abbrev N_is_end : List Str := ["state", "text"]
theorem sc_is_end : FnScope N_is_end ["state", "text"] (defScope s_is_end) := ⟨rfl, rfl, rfl, by decide +kernel, rfl, by decide +kernel, by decide +kernel⟩

abbrev s_onward : Stmt := top 22
abbrev N_onward : List Str := ["state", "text", "rest", "place", "thing", "behind", "ahead"]
theorem sc_onward : FnScope N_onward ["state", "text"] (defScope s_onward) := ⟨rfl, rfl, rfl, by decide +kernel, rfl, by decide +kernel, by decide +kernel⟩

abbrev s__takes : Stmt := top 23
abbrev N__takes : List Str := ["thing", "sign"]
theorem sc__takes : FnScope N__takes ["thing", "sign"] (defScope s__takes) := ⟨rfl, rfl, rfl, by decide +kernel, rfl, by decide +kernel, by decide +kernel⟩

abbrev s__unfolded : Stmt := top 24
abbrev N__unfolded : List Str := ["thing", "p", "q", "n"]
theorem sc__unfolded : FnScope N__unfolded ["thing"] (defScope s__unfolded) := ⟨rfl, rfl, rfl, by decide +kernel, rfl, by decide +kernel, by decide +kernel⟩

abbrev s_walk : Stmt := top 26
abbrev N_walk : List Str := ["pattern", "text", "way", "states", "left"]
theorem sc_walk : FnScope N_walk ["pattern", "text", "way"] (defScope s_walk) := ⟨rfl, rfl, rfl, by decide +kernel, rfl, by decide +kernel, by decide +kernel⟩

abbrev s__followed : Stmt := top 27
abbrev N__followed : List Str := ["following", "left", "choice"]
theorem sc__followed : FnScope N__followed ["following", "left"] (defScope s__followed) := ⟨rfl, rfl, rfl, by decide +kernel, rfl, by decide +kernel, by decide +kernel⟩

abbrev s__is_choice : Stmt := top 28
abbrev N__is_choice : List Str := ["thing"]
theorem sc__is_choice : FnScope N__is_choice ["thing"] (defScope s__is_choice) := ⟨rfl, rfl, rfl, by decide +kernel, rfl, by decide +kernel, by decide +kernel⟩

abbrev s__law_cell_at : Stmt := top 30
abbrev N__law_cell_at : List Str := ["_law_script", "_law_k"]
theorem sc__law_cell_at : FnScope N__law_cell_at ["_law_script", "_law_k"] (defScope s__law_cell_at) := ⟨rfl, rfl, rfl, by decide +kernel, rfl, by decide +kernel, by decide +kernel⟩

abbrev s__law_sign : Stmt := top 31
abbrev N__law_sign : List Str := ["_law_cell", "_law_some"]
theorem sc__law_sign : FnScope N__law_sign ["_law_cell"] (defScope s__law_sign) := ⟨rfl, rfl, rfl, by decide +kernel, rfl, by decide +kernel, by decide +kernel⟩

abbrev s__law_leaf : Stmt := top 32
abbrev N__law_leaf : List Str := ["_law_cell", "_law_head", "_law_sign_here"]
theorem sc__law_leaf : FnScope N__law_leaf ["_law_cell", "_law_head"] (defScope s__law_leaf) := ⟨rfl, rfl, rfl, by decide +kernel, rfl, by decide +kernel, by decide +kernel⟩

abbrev s__law_two : Stmt := top 33
abbrev N__law_two : List Str := ["_law_cell", "_law_left", "_law_right", "_law_side"]
theorem sc__law_two : FnScope N__law_two ["_law_cell", "_law_left", "_law_right"] (defScope s__law_two) := ⟨rfl, rfl, rfl, by decide +kernel, rfl, by decide +kernel, by decide +kernel⟩

abbrev s__law_round : Stmt := top 34
abbrev N__law_round : List Str := ["_law_cell", "_law_part", "_law_head", "_law_sign_here", "_law_many", "_law_way", "_law_turn"]
theorem sc__law_round : FnScope N__law_round ["_law_cell", "_law_part", "_law_head"] (defScope s__law_round) := ⟨rfl, rfl, rfl, by decide +kernel, rfl, by decide +kernel, by decide +kernel⟩

abbrev s__law_made : Stmt := top 35
abbrev N__law_made : List Str := ["_law_cells", "_law_head", "_law_pile", "_law_number", "_law_cell", "_law_kind", "_law_right", "_law_part"]
theorem sc__law_made : FnScope N__law_made ["_law_cells", "_law_head"] (defScope s__law_made) := ⟨rfl, rfl, rfl, by decide +kernel, rfl, by decide +kernel, by decide +kernel⟩

abbrev s__law_onward : Stmt := top 36
abbrev N__law_onward : List Str := ["_law_state", "_law_text", "_law_rest", "_law_place", "_law_thing", "_law_behind"]
theorem sc__law_onward : FnScope N__law_onward ["_law_state", "_law_text"] (defScope s__law_onward) := ⟨rfl, rfl, rfl, by decide +kernel, rfl, by decide +kernel, by decide +kernel⟩

abbrev s__law_walked : Stmt := top 37
abbrev N__law_walked : List Str := ["_law_pattern", "_law_text", "_law_way", "_law_state", "_law_found", "_law_used", "_law_goes", "_law_turn"]
theorem sc__law_walked : FnScope N__law_walked ["_law_pattern", "_law_text", "_law_way"] (defScope s__law_walked) := ⟨rfl, rfl, rfl, by decide +kernel, rfl, by decide +kernel, by decide +kernel⟩

abbrev s__law_put_otherwise : Stmt := top 38
abbrev N__law_put_otherwise : List Str := ["_law_way", "_law_cell", "_law_at", "_law_odd"]
theorem sc__law_put_otherwise : FnScope N__law_put_otherwise ["_law_way", "_law_cell"] (defScope s__law_put_otherwise) := ⟨rfl, rfl, rfl, by decide +kernel, rfl, by decide +kernel, by decide +kernel⟩

abbrev s__law_changed : Stmt := top 39
abbrev N__law_changed : List Str := ["_law_text", "_law_cell", "_law_head", "_law_at", "_law_sign_here"]
theorem sc__law_changed : FnScope N__law_changed ["_law_text", "_law_cell", "_law_head"] (defScope s__law_changed) := ⟨rfl, rfl, rfl, by decide +kernel, rfl, by decide +kernel, by decide +kernel⟩

abbrev s__law_refused : Stmt := top 40
abbrev N__law_refused : List Str := ["_law_pattern", "_law_text", "_law_way", "e", "_law_other"]
theorem sc__law_refused : FnScope N__law_refused ["_law_pattern", "_law_text", "_law_way"] (defScope s__law_refused) := ⟨rfl, rfl, rfl, by decide +kernel, rfl, by decide +kernel, by decide +kernel⟩

abbrev s_law : Stmt := top 41
abbrev N_law : List Str := ["_law_script", "_law_head", "_law_made_here", "_law_text", "_law_way", "_law_due", "_law_handed", "_law_found", "_law_one"]
theorem sc_law : FnScope N_law ["_law_script"] (defScope s_law) := ⟨rfl, rfl, rfl, by decide +kernel, rfl, by decide +kernel, by decide +kernel⟩

structure Txt (w : World) (K : PySem.W.Frag) (mg : Str → Option Value) where
  f_parts : Addr
  fd_parts : FuncData
  F_parts : Fun K "parts" "parts" s_parts f_parts fd_parts
  m_parts : mg "parts" = some (.ref f_parts)
  b_parts : Binds K fd_parts ["pattern"] []
  f_checked : Addr
  fd_checked : FuncData
  F_checked : Fun K "checked" "checked" s_checked f_checked fd_checked
  m_checked : mg "checked" = some (.ref f_checked)
  b_checked : Binds K fd_checked ["pattern"] []
  f__has_form : Addr
  fd__has_form : FuncData
  F__has_form : Fun K "_has_form" "_has_form" s__has_form f__has_form fd__has_form
  m__has_form : mg "_has_form" = some (.ref f__has_form)
  b__has_form : Binds K fd__has_form ["thing"] []
  f__is_sign : Addr
  fd__is_sign : FuncData
  F__is_sign : Fun K "_is_sign" "_is_sign" s__is_sign f__is_sign fd__is_sign
  m__is_sign : mg "_is_sign" = some (.ref f__is_sign)
  b__is_sign : Binds K fd__is_sign ["thing"] []
  f__is_group_number : Addr
  fd__is_group_number : FuncData
  F__is_group_number : Fun K "_is_group_number" "_is_group_number" s__is_group_number f__is_group_number fd__is_group_number
  m__is_group_number : mg "_is_group_number" = some (.ref f__is_group_number)
  b__is_group_number : Binds K fd__is_group_number ["thing"] []
  f__inner : Addr
  fd__inner : FuncData
  F__inner : Fun K "_inner" "_inner" s__inner f__inner fd__inner
  m__inner : mg "_inner" = some (.ref f__inner)
  b__inner : Binds K fd__inner ["part"] []
  f__numbers_among : Addr
  fd__numbers_among : FuncData
  F__numbers_among : Fun K "_numbers_among" "_numbers_among" s__numbers_among f__numbers_among fd__numbers_among
  m__numbers_among : mg "_numbers_among" = some (.ref f__numbers_among)
  b__numbers_among : Binds K fd__numbers_among ["found"] []
  f__has_twins : Addr
  fd__has_twins : FuncData
  F__has_twins : Fun K "_has_twins" "_has_twins" s__has_twins f__has_twins fd__has_twins
  m__has_twins : mg "_has_twins" = some (.ref f__has_twins)
  b__has_twins : Binds K fd__has_twins ["many"] []
  f__takings : Addr
  fd__takings : FuncData
  F__takings : Fun K "_takings" "_takings" s__takings f__takings fd__takings
  m__takings : mg "_takings" = some (.ref f__takings)
  b__takings : Binds K fd__takings ["found"] []
  f__may_take_nothing : Addr
  fd__may_take_nothing : FuncData
  F__may_take_nothing : Fun K "_may_take_nothing" "_may_take_nothing" s__may_take_nothing f__may_take_nothing fd__may_take_nothing
  m__may_take_nothing : mg "_may_take_nothing" = some (.ref f__may_take_nothing)
  b__may_take_nothing : Binds K fd__may_take_nothing ["name", "inner_answers"] []
  f__has_empty_round : Addr
  fd__has_empty_round : FuncData
  F__has_empty_round : Fun K "_has_empty_round" "_has_empty_round" s__has_empty_round f__has_empty_round fd__has_empty_round
  m__has_empty_round : mg "_has_empty_round" = some (.ref f__has_empty_round)
  b__has_empty_round : Binds K fd__has_empty_round ["found"] []
  f_first_state : Addr
  fd_first_state : FuncData
  F_first_state : Fun K "first_state" "first_state" s_first_state f_first_state fd_first_state
  m_first_state : mg "first_state" = some (.ref f_first_state)
  b_first_state : Binds K fd_first_state ["pattern"] []
  f_is_end : Addr
  fd_is_end : FuncData
  F_is_end : Fun K "is_end" "is_end" s_is_end f_is_end fd_is_end
  m_is_end : mg "is_end" = some (.ref f_is_end)
  b_is_end : Binds K fd_is_end ["state", "text"] []
  f_onward : Addr
  fd_onward : FuncData
  F_onward : Fun K "onward" "onward" s_onward f_onward fd_onward
  m_onward : mg "onward" = some (.ref f_onward)
  b_onward : Binds K fd_onward ["state", "text"] []
  f__takes : Addr
  fd__takes : FuncData
  F__takes : Fun K "_takes" "_takes" s__takes f__takes fd__takes
  m__takes : mg "_takes" = some (.ref f__takes)
  b__takes : Binds K fd__takes ["thing", "sign"] []
  f__unfolded : Addr
  fd__unfolded : FuncData
  F__unfolded : Fun K "_unfolded" "_unfolded" s__unfolded f__unfolded fd__unfolded
  m__unfolded : mg "_unfolded" = some (.ref f__unfolded)
  b__unfolded : Binds K fd__unfolded ["thing"] []
  f_walk : Addr
  fd_walk : FuncData
  F_walk : Fun K "walk" "walk" s_walk f_walk fd_walk
  m_walk : mg "walk" = some (.ref f_walk)
  b_walk : Binds K fd_walk ["pattern", "text", "way"] []
  f__followed : Addr
  fd__followed : FuncData
  F__followed : Fun K "_followed" "_followed" s__followed f__followed fd__followed
  m__followed : mg "_followed" = some (.ref f__followed)
  b__followed : Binds K fd__followed ["following", "left"] []
  f__is_choice : Addr
  fd__is_choice : FuncData
  F__is_choice : Fun K "_is_choice" "_is_choice" s__is_choice f__is_choice fd__is_choice
  m__is_choice : mg "_is_choice" = some (.ref f__is_choice)
  b__is_choice : Binds K fd__is_choice ["thing"] []
  f__law_cell_at : Addr
  fd__law_cell_at : FuncData
  F__law_cell_at : Fun K "_law_cell_at" "_law_cell_at" s__law_cell_at f__law_cell_at fd__law_cell_at
  m__law_cell_at : mg "_law_cell_at" = some (.ref f__law_cell_at)
  b__law_cell_at : Binds K fd__law_cell_at ["_law_script", "_law_k"] []
  f__law_sign : Addr
  fd__law_sign : FuncData
  F__law_sign : Fun K "_law_sign" "_law_sign" s__law_sign f__law_sign fd__law_sign
  m__law_sign : mg "_law_sign" = some (.ref f__law_sign)
  b__law_sign : Binds K fd__law_sign ["_law_cell"] []
  f__law_leaf : Addr
  fd__law_leaf : FuncData
  F__law_leaf : Fun K "_law_leaf" "_law_leaf" s__law_leaf f__law_leaf fd__law_leaf
  m__law_leaf : mg "_law_leaf" = some (.ref f__law_leaf)
  b__law_leaf : Binds K fd__law_leaf ["_law_cell", "_law_head"] []
  f__law_two : Addr
  fd__law_two : FuncData
  F__law_two : Fun K "_law_two" "_law_two" s__law_two f__law_two fd__law_two
  m__law_two : mg "_law_two" = some (.ref f__law_two)
  b__law_two : Binds K fd__law_two ["_law_cell", "_law_left", "_law_right"] []
  f__law_round : Addr
  fd__law_round : FuncData
  F__law_round : Fun K "_law_round" "_law_round" s__law_round f__law_round fd__law_round
  m__law_round : mg "_law_round" = some (.ref f__law_round)
  b__law_round : Binds K fd__law_round ["_law_cell", "_law_part", "_law_head"] []
  f__law_made : Addr
  fd__law_made : FuncData
  F__law_made : Fun K "_law_made" "_law_made" s__law_made f__law_made fd__law_made
  m__law_made : mg "_law_made" = some (.ref f__law_made)
  b__law_made : Binds K fd__law_made ["_law_cells", "_law_head"] []
  f__law_onward : Addr
  fd__law_onward : FuncData
  F__law_onward : Fun K "_law_onward" "_law_onward" s__law_onward f__law_onward fd__law_onward
  m__law_onward : mg "_law_onward" = some (.ref f__law_onward)
  b__law_onward : Binds K fd__law_onward ["_law_state", "_law_text"] []
  f__law_walked : Addr
  fd__law_walked : FuncData
  F__law_walked : Fun K "_law_walked" "_law_walked" s__law_walked f__law_walked fd__law_walked
  m__law_walked : mg "_law_walked" = some (.ref f__law_walked)
  b__law_walked : Binds K fd__law_walked ["_law_pattern", "_law_text", "_law_way"] []
  f__law_put_otherwise : Addr
  fd__law_put_otherwise : FuncData
  F__law_put_otherwise : Fun K "_law_put_otherwise" "_law_put_otherwise" s__law_put_otherwise f__law_put_otherwise fd__law_put_otherwise
  m__law_put_otherwise : mg "_law_put_otherwise" = some (.ref f__law_put_otherwise)
  b__law_put_otherwise : Binds K fd__law_put_otherwise ["_law_way", "_law_cell"] []
  f__law_changed : Addr
  fd__law_changed : FuncData
  F__law_changed : Fun K "_law_changed" "_law_changed" s__law_changed f__law_changed fd__law_changed
  m__law_changed : mg "_law_changed" = some (.ref f__law_changed)
  b__law_changed : Binds K fd__law_changed ["_law_text", "_law_cell", "_law_head"] []
  f__law_refused : Addr
  fd__law_refused : FuncData
  F__law_refused : Fun K "_law_refused" "_law_refused" s__law_refused f__law_refused fd__law_refused
  m__law_refused : mg "_law_refused" = some (.ref f__law_refused)
  b__law_refused : Binds K fd__law_refused ["_law_pattern", "_law_text", "_law_way"] []
  f_law : Addr
  fd_law : FuncData
  F_law : Fun K "law" "law" s_law f_law fd_law
  m_law : mg "law" = some (.ref f_law)
  b_law : Binds K fd_law ["_law_script"] []
  n_ValueError : mg "ValueError" = none
  n_all : mg "all" = none
  n_any : mg "any" = none
  n_bool : mg "bool" = none
  n_enumerate : mg "enumerate" = none
  n_int : mg "int" = none
  n_isinstance : mg "isinstance" = none
  n_len : mg "len" = none
  n_list : mg "list" = none
  n_range : mg "range" = none
  n_reversed : mg "reversed" = none
  n_set : mg "set" = none
  n_str : mg "str" = none
  n_tuple : mg "tuple" = none
  n_type : mg "type" = none
  d_LENGTHS : Addr
  m_LENGTHS : mg "LENGTHS" = some (.ref d_LENGTHS)
  w_LENGTHS : ∃ es n, K.lookup d_LENGTHS = some ⟨.type "dict", none, .dict es n, #[]⟩ ∧ PySem.W.KeysLit w.params es.toList
  y_LENGTHS : (d_LENGTHS == sysModules) = false
  g_sign : KGet K w d_LENGTHS "sign" (some (.int 2))
  g_any : KGet K w d_LENGTHS "any" (some (.int 1))
  g_none : KGet K w d_LENGTHS "none" (some (.int 1))
  g_row : KGet K w d_LENGTHS "row" (some (.int 3))
  g_or : KGet K w d_LENGTHS "or" (some (.int 3))
  g_more : KGet K w d_LENGTHS "more" (some (.int 2))
  g_less : KGet K w d_LENGTHS "less" (some (.int 2))
  g_group : KGet K w d_LENGTHS "group" (some (.int 3))
  c_MarkError : Addr
  g_MarkError : mg "MarkError" = some (.ref c_MarkError)
  c_BadPattern : Addr
  g_BadPattern : mg "BadPattern" = some (.ref c_BadPattern)
  c_TwiceNumbered : Addr
  g_TwiceNumbered : mg "TwiceNumbered" = some (.ref c_TwiceNumbered)
  c_EmptyRound : Addr
  g_EmptyRound : mg "EmptyRound" = some (.ref c_EmptyRound)
  c_BadWay : Addr
  g_BadWay : mg "BadWay" = some (.ref c_BadWay)
  x_BadWay : PySem.W.excIn K c_BadWay [.type "ValueError", .type "Exception", .type "BaseException", .type "object"] "ValueError.__new__" = true
  k_BadWay : PySem.W.keepIn K (.ref c_BadWay) = true
  b_BadWay : PySem.W.subIn K (.ref c_BadWay) (.type "BaseException") = some true
  t_BadWay : PySem.W.typeIn K (.ref c_BadWay) = some (.type "type")
  ei_BadWay : ExcC K c_BadWay
  kv_BadWay : PySem.W.kitOne K (.ref c_BadWay) (.type "ValueError") = some true
  e_BadWay_MarkError : PySem.W.exmOne K (.ref c_BadWay) (.ref c_MarkError) = some true
  ki_BadWay_MarkError : PySem.W.kitOne K (.ref c_BadWay) (.ref c_MarkError) = some true
  e_BadWay_BadPattern : PySem.W.exmOne K (.ref c_BadWay) (.ref c_BadPattern) = some false
  ki_BadWay_BadPattern : PySem.W.kitOne K (.ref c_BadWay) (.ref c_BadPattern) = some false
  e_BadWay_TwiceNumbered : PySem.W.exmOne K (.ref c_BadWay) (.ref c_TwiceNumbered) = some false
  ki_BadWay_TwiceNumbered : PySem.W.kitOne K (.ref c_BadWay) (.ref c_TwiceNumbered) = some false
  e_BadWay_EmptyRound : PySem.W.exmOne K (.ref c_BadWay) (.ref c_EmptyRound) = some false
  ki_BadWay_EmptyRound : PySem.W.kitOne K (.ref c_BadWay) (.ref c_EmptyRound) = some false
  e_BadWay_BadWay : PySem.W.exmOne K (.ref c_BadWay) (.ref c_BadWay) = some true
  ki_BadWay_BadWay : PySem.W.kitOne K (.ref c_BadWay) (.ref c_BadWay) = some true
end G1

set_option maxRecDepth 100000
set_option maxHeartbeats 4000000
namespace G1
open PySem PySem.Spec PyProof.Rows L2 Gm
section
variable {P : Program} {w : World} {K : PySem.W.Frag} {mg : Str → Option Value} {base : Heap}
def sp_is_sign : Sp := fun vs H Q _ => ∃ c : Nat, vs = [.str ⟨#[c]⟩] ∧ Q (.bl true) H
theorem ok__is_sign (T : Txt w K mg) : FnOk P w K mg base CX0 1 T.f__is_sign T.fd__is_sign ["thing"] sp_is_sign := by
  refine T.F__is_sign.ok sc__is_sign (fun vs H Q E h => ?_) (fun cdv A outer s H vs Q E hr h => ?_)
  · obtain ⟨c, rfl, _⟩ := h
    rfl
  obtain ⟨c, rfl, q⟩ := h
  refine ⟨_, (pss_one (ps_ret (pe_and (pe_cmpR (op_eqTy TypeEq.meta_str) (pe_callTy call_type1 (by rfl) T.n_type (by decide +kernel) (pa_cons (pv 0) pa_nil)) (pe_bltn (v := .ty "str") (by rfl) T.n_str (by decide +kernel) rfl) (nomark _)) (pe_one (pe_cmpR op_eq (pe_callB call_len (by rfl) T.n_len PySem.boot_len (pa_cons (pv 0) pa_nil)) pe_int (nomark _)))))), ?_⟩
  refine ⟨_, rfl, _, _, rfl, .str _, rfl, rfl, _, rfl, iteT ?_⟩
  refine ⟨_, rfl, _, _, rfl, ⟨sz (by show 1 ≤ 10000; decide), rfl⟩, rfl, ?_⟩
  exact q

end
end G1

set_option maxRecDepth 100000
set_option maxHeartbeats 4000000
namespace G1
open PySem PySem.Spec PyProof.Rows L2 Gm
section
variable {P : Program} {w : World} {K : PySem.W.Frag} {mg : Str → Option Value} {base : Heap}
def sp_is_group_number : Sp := fun vs H Q _ => ∃ n : Int, vs = [.int n] ∧ 1 ≤ n ∧ Q (.bl true) H
theorem ok__is_group_number (T : Txt w K mg) : FnOk P w K mg base CX0 1 T.f__is_group_number T.fd__is_group_number ["thing"] sp_is_group_number := by
  refine T.F__is_group_number.ok sc__is_group_number (fun vs H Q E h => ?_) (fun cdv A outer s H vs Q E hr h => ?_)
  · obtain ⟨c, rfl, _⟩ := h
    rfl
  obtain ⟨n, rfl, hn, q⟩ := h
  refine ⟨_, (pss_one (ps_ret (pe_and (pe_cmpR (op_eqTy TypeEq.meta_int) (pe_callTy call_type1 (by rfl) T.n_type (by decide +kernel) (pa_cons (pv 0) pa_nil)) (pe_bltn (v := .ty "int") (by rfl) T.n_int (by decide +kernel) rfl) (nomark _)) (pe_one (pe_cmpR op_ge (pv 0) pe_int (nomark _)))))), ?_⟩
  refine ⟨_, rfl, _, _, rfl, .int _, rfl, rfl, _, rfl, iteT ?_⟩
  refine ⟨_, rfl, _, _, rfl, rfl, ?_⟩
  show Q (.bl (decide (1 ≤ n))) H
  rw [decide_eq_true hn]
  exact q

end
end G1

set_option maxRecDepth 100000
set_option maxHeartbeats 4000000
namespace G1
open PySem PySem.Spec PyProof.Rows L2 Gm
section
variable {P : Program} {w : World} {K : PySem.W.Frag} {mg : Str → Option Value} {base : Heap}
def arity (p : Pat) : Int := 1 + ((mid p).length : Int) + ((kids p).length : Int)
def sp_has_form (K : PySem.W.Frag) : Sp := fun vs H Q _ => ∃ (p : Pat) (v : V), vs = [v] ∧ PAt K H p v ∧ Q (.bl true) H
theorem ok__has_form (T : Txt w K mg) : FnOk P w K mg base CX0 2 T.f__has_form T.fd__has_form ["thing"] (sp_has_form K) := by
  refine T.F__has_form.ok sc__has_form (fun vs H Q E h => ?_) (fun cdv A outer s H vs Q E hr h => ?_)
  · obtain ⟨p, v, rfl, _⟩ := h
    rfl
  obtain ⟨p, v, rfl, hp, q⟩ := h
  obtain ⟨a, ws, rfl, ht, hk⟩ := hp.node
  have hl : (V.str (nm p) :: (mid p ++ ws)).length = 1 + (mid p).length + (kids p).length := by
    rw [List.length_cons, List.length_append, ← Paired.length hk]
    omega
  have g : KGet K w T.d_LENGTHS (nm p) (some (.int (arity p))) := by
    cases p
    · exact T.g_sign
    · exact T.g_any
    · exact T.g_none
    · exact T.g_row
    · exact T.g_or
    · exact T.g_more
    · exact T.g_less
    · exact T.g_group
  refine ⟨_, (pss_cons (ps_if (PW.pt (pw_or (pt_cmpR (op_neTy TypeEq.meta_tuple) (pe_callTy call_type1 (by rfl) T.n_type (by decide +kernel) (pa_cons (pv 0) pa_nil)) (pe_bltn (v := .ty "tuple") (by rfl) T.n_tuple (by decide +kernel) rfl) (nomark _)) (pw_or1 (pt_cmpR op_eq (pe_callB call_len_seq (by rfl) T.n_len PySem.boot_len (pa_cons (pv 0) pa_nil)) pe_int (nomark _)))))
    (pss_one (ps_ret pe_bl))
    pss_nil)
  (pss_cons (ps_set (i := 1) sc__has_form.nd rfl (.inl rfl) (pe_ix ix_tup (pv 0) pe_int (fun _ _ => rfl)))
  (pss_cons (ps_if (PW.pt (pw_or (pt_cmpR (op_neTy TypeEq.meta_str) (pe_callTy call_type1 (by rfl) T.n_type (by decide +kernel) (pa_cons (pv 1) pa_nil)) (pe_bltn (v := .ty "str") (by rfl) T.n_str (by decide +kernel) rfl) (nomark _)) (pw_or1 (pt_cmpR op_ne (pe_kget (pe_glob (v := .ref T.d_LENGTHS) (by rfl) T.m_LENGTHS rfl) (pv 1) ⟨rfl, rfl, rfl, rfl⟩) (pe_callB call_len_seq (by rfl) T.n_len PySem.boot_len (pa_cons (pv 0) pa_nil)) (nomark _)))))
    (pss_one (ps_ret pe_bl))
    pss_nil)
  (pss_cons (ps_if (pt_cmpR op_eq (pv 1) pe_str (nomark _))
    (pss_one (ps_ret (pe_call (ok__is_sign T) (hr.mono (by decide)) (by rfl) T.m__is_sign T.F__is_sign.kp T.b__is_sign .nil pass0 (pa_cons (pe_ix ix_tup (pv 0) pe_int (fun _ _ => rfl)) pa_nil))))
    pss_nil)
  (pss_cons (ps_if (pt_cmpR op_eq (pv 1) pe_str (nomark _))
    (pss_one (ps_ret (pe_call (ok__is_group_number T) (hr.mono (by decide)) (by rfl) T.m__is_group_number T.F__is_group_number.kp T.b__is_group_number .nil pass0 (pa_cons (pe_ix ix_tup (pv 0) pe_int (fun _ _ => rfl)) pa_nil))))
    pss_nil)
  (pss_one (ps_ret pe_bl))))))), ?_⟩
  refine ⟨_, rfl, _, _, rfl, .tup ht, rfl, rfl, _, rfl, iteF ?_⟩
  refine ⟨_, rfl, a, _, rfl, .inr ht, rfl, _, rfl, ?_⟩
  have e0 : decide (V.int (((V.str (nm p) :: (mid p ++ ws)).length : Nat) : Int) = V.int 0) = false := decide_eq_false fun z => by
    have z' := V.int.inj z
    rw [hl] at z'
    omega
  rw [e0]
  refine iteF ?_
  refine ⟨_, rfl, _, _, _, _, rfl, rfl, ht, at0 rfl, ?_⟩
  refine ⟨_, rfl, _, _, rfl, .str _, rfl, rfl, _, rfl, iteF ?_⟩
  refine ⟨_, rfl, T.w_LENGTHS, T.y_LENGTHS, _, rfl, _, _, rfl, g, ?_⟩
  refine ⟨_, rfl, a, _, rfl, .inr ht, rfl, _, rfl, ?_⟩
  have e1 : (!decide (V.int (arity p) = V.int (((V.str (nm p) :: (mid p ++ ws)).length : Nat) : Int))) = false := by
    rw [decide_eq_true]
    · rfl
    · rw [hl]
      unfold arity
      congr 1
  show if (!decide (V.int (arity p) = V.int (((V.str (nm p) :: (mid p ++ ws)).length : Nat) : Int))) = true then _ else _
  rw [e1]
  refine iteF ?_
  refine ⟨_, rfl, rfl, _, rfl, ?_⟩
  cases p with
  | sign c =>
    refine iteT ?_
    exact ⟨_, rfl, _, _, _, _, rfl, rfl, ht, at1 rfl, c, rfl, q⟩
  | group n p =>
    refine iteF ?_
    refine ⟨_, rfl, rfl, _, rfl, iteT ?_⟩
    exact ⟨_, rfl, _, _, _, _, rfl, rfl, ht, at1 rfl, n, rfl, hp.num, q⟩
  | _ =>
    refine iteF ?_
    refine ⟨_, rfl, rfl, _, rfl, iteF ?_⟩
    exact q

end
end G1

set_option maxRecDepth 100000
set_option maxHeartbeats 4000000
namespace G1
open PySem PySem.Spec PyProof.Rows L2 Gm
section
variable {P : Program} {w : World} {K : PySem.W.Frag} {mg : Str → Option Value} {base : Heap}
def sp_inner (K : PySem.W.Frag) : Sp := fun vs H Q _ => ∃ (p : Pat) (v : V), vs = [v] ∧ PAt K H p v ∧
  ∀ (r : Addr) (ws : List V) (H' : Hp), Same H H' → H r = none → H' r = some (.lst ws) → PAts K H' (kids p) ws → Q (.ref r) H'
theorem ok__inner (T : Txt w K mg) : FnOk P w K mg base CX0 1 T.f__inner T.fd__inner ["part"] (sp_inner K) := by
  refine T.F__inner.ok sc__inner (fun vs H Q E h => ?_) (fun cdv A outer s H vs Q E hr h => ?_)
  · obtain ⟨p, v, rfl, _⟩ := h
    rfl
  obtain ⟨p, v, rfl, hp, q⟩ := h
  obtain ⟨a, ws, rfl, ht, hk⟩ := hp.node
  refine ⟨_, (pss_cons (ps_if (pt_cmpR op_in_seq (pe_ix ix_tup (pv 0) pe_int (fun _ _ => rfl)) (pe_tup (pa_cons pe_str (pa_cons pe_str pa_nil))) (by rfl))
    (pss_one (ps_ret (pe_lst (pa_cons (pe_ix ix_tup (pv 0) pe_int (fun _ _ => rfl)) (pa_cons (pe_ix ix_tup (pv 0) pe_int (fun _ _ => rfl)) pa_nil)))))
    pss_nil)
  (pss_cons (ps_if (pt_cmpR op_in_seq (pe_ix ix_tup (pv 0) pe_int (fun _ _ => rfl)) (pe_tup (pa_cons pe_str (pa_cons pe_str pa_nil))) (by rfl))
    (pss_one (ps_ret (pe_lst (pa_cons (pe_ix ix_tup (pv 0) pe_int (fun _ _ => rfl)) pa_nil))))
    pss_nil)
  (pss_cons (ps_if (pt_cmpR op_eq (pe_ix ix_tup (pv 0) pe_int (fun _ _ => rfl)) pe_str (nomark _))
    (pss_one (ps_ret (pe_lst (pa_cons (pe_ix ix_tup (pv 0) pe_int (fun _ _ => rfl)) pa_nil))))
    pss_nil)
  (pss_one (ps_ret (pe_lst pa_nil)))))), ?_⟩
  refine ⟨_, rfl, _, _, _, _, rfl, rfl, ht, at0 rfl, (by show 2 ≤ sizeLine; exact sz (by decide)), fun t1 n1 => ⟨_, _, rfl, .inr (SqT.of upd_same), rfl, rfl, _, rfl, ?_⟩⟩
  have s1 := same_new (o := .tup [.str "row", .str "or"]) n1
  have ht1 := TS.of (K := K) s1 _ _ ht
  have hk1 := PAts.mono (TS.of (K := K) s1) hk
  cases p with
  | row p1 p2 =>
    cases hk with
    | cons k1 k2 =>
      cases k2 with
      | cons k2 k3 =>
        cases k3
        refine iteT ?_
        refine ⟨_, rfl, _, _, _, _, rfl, rfl, ht1, at1 rfl, _, rfl, _, _, _, _, rfl, rfl, ht1, at2 rfl, (by show 2 ≤ sizeLine; exact sz (by decide)), fun r hr => ?_⟩
        exact q r _ _ (s1.trans (same_new hr)) (s1.free hr) upd_same (hk1.mono (TS.new hr))
  | or p1 p2 =>
    cases hk with
    | cons k1 k2 =>
      cases k2 with
      | cons k2 k3 =>
        cases k3
        refine iteT ?_
        refine ⟨_, rfl, _, _, _, _, rfl, rfl, ht1, at1 rfl, _, rfl, _, _, _, _, rfl, rfl, ht1, at2 rfl, (by show 2 ≤ sizeLine; exact sz (by decide)), fun r hr => ?_⟩
        exact q r _ _ (s1.trans (same_new hr)) (s1.free hr) upd_same (hk1.mono (TS.new hr))
  | more p1 =>
    cases hk with
    | @cons _ x _ _ k1 k2 =>
      cases k2
      refine iteF ?_
      refine ⟨_, rfl, _, _, _, _, rfl, rfl, ht1, at0 rfl, (by show 2 ≤ sizeLine; exact sz (by decide)), fun t2 n2 => ⟨_, _, rfl, .inr (SqT.of upd_same), rfl, rfl, _, rfl, iteT ?_⟩⟩
      have s2 := s1.trans (same_new (o := .tup [.str "more", .str "less"]) n2)
      have ht2 := TS.of (K := K) s2 _ _ ht
      refine ⟨_, rfl, _, _, _, _, rfl, rfl, ht2, at1 rfl, (by show 1 ≤ sizeLine; exact sz (by decide)), fun r hr => ?_⟩
      exact q r _ _ (s2.trans (same_new hr)) (s2.free hr) upd_same (PAts.mono (TS.of (s2.trans (same_new hr))) (.cons k1 .nil))
  | less p1 =>
    cases hk with
    | @cons _ x _ _ k1 k2 =>
      cases k2
      refine iteF ?_
      refine ⟨_, rfl, _, _, _, _, rfl, rfl, ht1, at0 rfl, (by show 2 ≤ sizeLine; exact sz (by decide)), fun t2 n2 => ⟨_, _, rfl, .inr (SqT.of upd_same), rfl, rfl, _, rfl, iteT ?_⟩⟩
      have s2 := s1.trans (same_new (o := .tup [.str "more", .str "less"]) n2)
      have ht2 := TS.of (K := K) s2 _ _ ht
      refine ⟨_, rfl, _, _, _, _, rfl, rfl, ht2, at1 rfl, (by show 1 ≤ sizeLine; exact sz (by decide)), fun r hr => ?_⟩
      exact q r _ _ (s2.trans (same_new hr)) (s2.free hr) upd_same (PAts.mono (TS.of (s2.trans (same_new hr))) (.cons k1 .nil))
  | group n p1 =>
    cases hk with
    | @cons _ x _ _ k1 k2 =>
      cases k2
      refine iteF ?_
      refine ⟨_, rfl, _, _, _, _, rfl, rfl, ht1, at0 rfl, (by show 2 ≤ sizeLine; exact sz (by decide)), fun t2 n2 => ⟨_, _, rfl, .inr (SqT.of upd_same), rfl, rfl, _, rfl, iteF ?_⟩⟩
      have s2 := s1.trans (same_new (o := .tup [.str "more", .str "less"]) n2)
      have ht2 := TS.of (K := K) s2 _ _ ht
      refine ⟨_, rfl, _, _, _, _, rfl, rfl, ht2, at0 rfl, rfl, _, rfl, iteT ?_⟩
      refine ⟨_, rfl, _, _, _, _, rfl, rfl, ht2, at2 rfl, (by show 1 ≤ sizeLine; exact sz (by decide)), fun r hr => ?_⟩
      exact q r _ _ (s2.trans (same_new hr)) (s2.free hr) upd_same (PAts.mono (TS.of (s2.trans (same_new hr))) (.cons k1 .nil))
  | _ =>
    cases hk
    refine iteF ?_
    refine ⟨_, rfl, _, _, _, _, rfl, rfl, ht1, at0 rfl, (by show 2 ≤ sizeLine; exact sz (by decide)), fun t2 n2 => ⟨_, _, rfl, .inr (SqT.of upd_same), rfl, rfl, _, rfl, iteF ?_⟩⟩
    have s2 := s1.trans (same_new (o := .tup [.str "more", .str "less"]) n2)
    have ht2 := TS.of (K := K) s2 _ _ ht
    refine ⟨_, rfl, _, _, _, _, rfl, rfl, ht2, at0 rfl, rfl, _, rfl, iteF ?_⟩
    refine ⟨Nat.zero_le _, fun r hr => ?_⟩
    exact q r _ _ (s2.trans (same_new hr)) (s2.free hr) upd_same .nil

end
end G1

set_option maxRecDepth 100000
set_option maxHeartbeats 4000000
namespace G1
open PySem PySem.Spec PyProof.Rows L2 Gm
section
variable {P : Program} {w : World} {K : PySem.W.Frag} {mg : Str → Option Value} {base : Heap}
def sp_may (K : PySem.W.Frag) : Sp := fun vs H Q _ => ∃ (z : Str) (a : Addr) (bs : List Bool), vs = [.str z, .ref a] ∧ SqL K H a (bs.map V.bl) ∧
  ∀ (H' : Hp), Same H H' → Q (.bl (mtn z bs)) H'
theorem ok__may_take_nothing (T : Txt w K mg) : FnOk P w K mg base CX0 1 T.f__may_take_nothing T.fd__may_take_nothing ["name", "inner_answers"] (sp_may K) := by
  refine T.F__may_take_nothing.ok sc__may_take_nothing (fun vs H Q E h => ?_) (fun cdv A outer s H vs Q E hr h => ?_)
  · obtain ⟨z, a, bs, rfl, _⟩ := h
    rfl
  obtain ⟨z, a, bs, rfl, ha, q⟩ := h
  refine ⟨_, (pss_cons (ps_if (pt_cmpR op_in_seq (pv 0) (pe_tup (pa_cons pe_str (pa_cons pe_str (pa_cons pe_str pa_nil)))) (by rfl))
    (pss_one (ps_ret pe_bl))
    pss_nil)
  (pss_cons (ps_if (pt_cmpR op_in_seq (pv 0) (pe_tup (pa_cons pe_str (pa_cons pe_str pa_nil))) (by rfl))
    (pss_one (ps_ret (pe_callB (cr_all rfl) (by rfl) T.n_all (by decide +kernel) (pa_cons (pv 1) pa_nil))))
    pss_nil)
  (pss_one (ps_ret (pe_callB (cr_any rfl) (by rfl) T.n_any (by decide +kernel) (pa_cons (pv 1) pa_nil)))))), ?_⟩
  refine ⟨_, rfl, ⟨(by show 3 ≤ sizeLine; exact sz (by decide)), fun t1 n1 => ⟨_, _, rfl, .inr (SqT.of upd_same), rfl, rfl, _, rfl, ?_⟩⟩⟩
  have s1 := same_new (o := .tup [.str "none", .str "more", .str "less"]) n1
  rw [inV3]
  refine ite2 (fun c => ?_) (fun c => ?_)
  · have e : mtn z bs = true := by
      unfold mtn
      rw [if_pos (of_decide_eq_true c)]
    have := q _ s1
    rw [e] at this
    exact this
  · refine ⟨_, rfl, ⟨(by show 2 ≤ sizeLine; exact sz (by decide)), fun t2 n2 => ⟨_, _, rfl, .inr (SqT.of upd_same), rfl, rfl, _, rfl, ?_⟩⟩⟩
    have s2 := s1.trans (same_new (o := .tup [.str "row", .str "group"]) n2)
    rw [inV2]
    have c' := of_decide_eq_false (Bool.eq_false_iff.mpr c)
    refine ite2 (fun d => ?_) (fun d => ?_)
    · have e : mtn z bs = bs.all id := by
        unfold mtn
        rw [if_neg c', if_pos (of_decide_eq_true d)]
      have := q _ s2
      rw [e] at this
      exact ⟨_, rfl, a, bs, rfl, s2.seq ha, this⟩
    · have e : mtn z bs = bs.any id := by
        unfold mtn
        rw [if_neg c', if_neg (of_decide_eq_false (Bool.eq_false_iff.mpr d))]
      have := q _ s2
      rw [e] at this
      exact ⟨_, rfl, a, bs, rfl, s2.seq ha, this⟩

end
end G1

set_option maxRecDepth 100000
set_option maxHeartbeats 4000000
namespace G1
open PySem PySem.Spec PyProof.Rows L2 Gm
section
variable {P : Program} {w : World} {K : PySem.W.Frag} {mg : Str → Option Value} {base : Heap}
def sp_parts (K : PySem.W.Frag) : Sp := fun vs H Q _ => ∃ (p : Pat) (v : V), vs = [v] ∧ PAt K H p v ∧ siz p ≤ 1000 ∧
  ∀ (r : Addr) (fs : List V) (H' : Hp), Same H H' → H r = none → H' r = some (.lst fs) → PAts K H' (subs p) fs → Q (.ref r) H'
def pInv (K : PySem.W.Frag) (H : Hp) (v : V) (lf lw : Addr) (p : Pat) (m : Nat) (σ : L2.St) (H' : Hp) : Prop :=
  ∃ (F W : List Pat) (fs ws : List V) (x : Option V), σ = [some v, some (.ref lf), some (.ref lw), x] ∧ Same H H' ∧ H' lf = some (.lst fs) ∧ H' lw = some (.lst ws.reverse) ∧
    PAts K H' F fs ∧ PAts K H' W ws ∧ subs p = F ++ subsL W ∧ m = (subsL W).length
theorem ok_parts (T : Txt w K mg) : FnOk P w K mg base CX0 3 T.f_parts T.fd_parts ["pattern"] (sp_parts K) := by
  refine T.F_parts.ok sc_parts (fun vs H Q E h => ?_) (fun cdv A outer s H vs Q E hr h => ?_)
  · obtain ⟨p, v, rfl, _⟩ := h
    rfl
  obtain ⟨p, v, rfl, hp, hz, q⟩ := h
  refine ⟨_, (pss_cons (ps_set (i := 1) sc_parts.nd rfl (.inl rfl) (pe_lst pa_nil))
  (pss_cons (ps_set (i := 2) sc_parts.nd rfl (.inl rfl) (pe_lst (pa_cons (pv 0) pa_nil)))
  (pss_cons (ps_while PassesOwn.never (pt_truth (pv 2) (by intro _; rfl))
   (pss_cons (ps_set (i := 3) sc_parts.nd rfl (.inl rfl) (pe_bm0 PySem.F.plainAttrs_list PySem.F.slot_list_pop PySem.F.type_list_pop mt_pop (pv 2)))
  (pss_cons (ps_if (pt_not (pt_val (pe_call (ok__has_form T) (hr.mono (by decide)) (by rfl) T.m__has_form T.F__has_form.kp T.b__has_form .nil pass0 (pa_cons (pv 3) pa_nil))))
    (pss_one ps_never)
    pss_nil)
  (pss_cons (ps_expr (pe_bm PySem.F.plainAttrs_list PySem.F.slot_list_append PySem.F.type_list_append mt_append (pv 1) (pa_cons (pv 3) pa_nil)))
  (pss_one (ps_expr (pe_bm PySem.F.plainAttrs_list PySem.F.slot_list_extend PySem.F.type_list_extend mt_extend (pv 2) (pa_cons (pe_revL (pe_call (ok__inner T) (hr.mono (by decide)) (by rfl) T.m__inner T.F__inner.kp T.b__inner .nil pass0 (pa_cons (pv 3) pa_nil))) pa_nil))))))))
  (pss_one (ps_ret (pv 1)))))), ?_⟩
  refine ⟨Nat.zero_le _, fun lf nf => ?_⟩
  refine ⟨_, rfl, sz (by show 1 ≤ 10000; decide), fun lw nw => ?_⟩
  have nlw : lw ≠ lf := fun z => by
    rw [z, upd_same] at nw
    cases nw
  have nw0 : H lw = none := by
    rw [upd_ne nlw] at nw
    exact nw
  refine ⟨pInv K H v lf lw p, ⟨_, [], [p], [], [v], none, rfl, ((same_new nf).trans (same_new nw)), ?_, upd_same, .nil, .cons (hp.mono (TS.of ((same_new nf).trans (same_new nw)))) .nil, ?_, rfl⟩, ?_⟩
  · rw [upd_ne nlw.symm]
    exact upd_same
  · rw [subsL_cons, subsL_nil, List.append_nil, List.nil_append]
  rintro m σ H1 ⟨F, W, fs, ws, x, rfl, s1, hf, hw, pf, pw, es, rfl⟩
  cases pw with
  | nil =>
    refine ⟨_, rfl, false, .inl ⟨_, SqL.of hw, rfl⟩, iteF ?_⟩
    refine ⟨_, rfl, ?_⟩
    rw [subsL_nil, List.append_nil] at es
    rw [← es] at pf
    exact q lf fs H1 s1 nf hf pf
  | @cons p1 v1 W' ws' h1 hW =>
    rw [List.reverse_cons] at hw
    refine ⟨_, rfl, true, .inl ⟨_, SqL.of hw, by simp⟩, iteT ?_⟩
    have el : (subsL (p1 :: W')).length = 1 + (subsL (kids p1 ++ W')).length := by
      rw [subsL_cons, subs_eq, subsL_app, List.cons_append, List.length_cons]
      omega
    have tot : F.length + (subsL (p1 :: W')).length ≤ 1000 := by
      have : (subs p).length ≤ 1000 := hz
      rw [es, List.length_append] at this
      exact this
    refine ⟨pInv K H v lf lw p (subsL (kids p1 ++ W')).length, fun σ' H' hI => ⟨_, by rw [el]; omega, hI⟩, ?_⟩
    refine ⟨_, rfl, .inl ⟨rfl, _, SqL.of hw⟩, lw, _, v1, rfl, rfl, hw, last_get _ _, ?_⟩
    rw [List.dropLast_concat]
    have t1 : TS K H1 (upd H1 lw (.lst ws'.reverse)) := TS.lst hw
    refine ⟨_, rfl, p1, v1, rfl, h1.mono t1, _, rfl, iteF ?_⟩
    have hf1 : upd H1 lw (.lst ws'.reverse) lf = some (.lst fs) := by
      rw [upd_ne nlw.symm]
      exact hf
    have lf1 : F.length = fs.length := Paired.length pf
    refine ⟨_, rfl, .inl ⟨rfl, _, SqL.of hf1⟩, _, rfl, lf, fs, v1, rfl, rfl, hf1, szl (by omega), ?_⟩
    have t2 := t1.trans (TS.lst (K := K) (ys := fs ++ [v1]) hf1)
    have hw2 : upd (upd H1 lw (.lst ws'.reverse)) lf (.lst (fs ++ [v1])) lw = some (.lst ws'.reverse) := by
      rw [upd_ne nlw]
      exact upd_same
    refine ⟨_, rfl, .inl ⟨rfl, _, SqL.of hw2⟩, _, rfl, p1, v1, rfl, h1.mono t2, fun r ks H2 s2 nr hr2 hk => ⟨r, ks, rfl, SqL.of hr2, fun r2 nr2 => ?_⟩⟩
    have s3 := s2.trans (same_new (o := .lst ks.reverse) nr2)
    have lk : (kids p1).length = ks.length := Paired.length hk
    have lw1 : W'.length = ws'.length := Paired.length hW
    refine ⟨lw, r2, _, _, rfl, rfl, s3 _ _ hw2, upd_same, ?_, ?_⟩
    · rw [List.length_reverse, List.length_reverse]
      have := subsL_pos (kids p1 ++ W')
      rw [List.length_append] at this
      exact sz (by omega)
    have hwA := s3 _ _ hw2
    have t3 := t2.trans (TS.of (K := K) s3)
    have t4 := t3.trans (TS.lst (K := K) (ys := ws'.reverse ++ ks.reverse) hwA)
    refine ⟨F ++ [p1], kids p1 ++ W', fs ++ [v1], ks ++ ws', some v1, rfl, ?_, ?_, ?_, ?_, ?_, ?_, rfl⟩
    · exact Same.mut (Same.trans (Same.mut (Same.mut s1 nw0) nf) s3) nw0
    · rw [upd_ne nlw.symm]
      exact s3 _ _ upd_same
    · rw [List.reverse_append]
      exact upd_same
    · exact Paired.snoc (PAts.mono t4 pf) (h1.mono t4)
    · exact Paired.app (PAts.mono ((TS.of (same_new nr2)).trans (TS.lst hwA)) hk) (PAts.mono t4 hW)
    · rw [es, subsL_cons, subs_eq, subsL_app]
      simp

end
end G1

set_option maxRecDepth 100000
set_option maxHeartbeats 4000000
namespace G1
open PySem PySem.Spec PyProof.Rows L2 Gm
section
variable {P : Program} {w : World} {K : PySem.W.Frag} {mg : Str → Option Value} {base : Heap}
def sp_takings (K : PySem.W.Frag) : Sp := fun vs H Q _ => ∃ (L : List Pat) (a : Addr) (fs : List V), vs = [.ref a] ∧ SqL K H a fs ∧ PAts K H L fs ∧ okL L ∧ L.length ≤ 1000 ∧
  ∀ (r : Addr) (H' : Hp), Same H H' → H r = none → H' r = some (.lst ((tk L).map V.bl)) → Q (.ref r) H'
theorem drop_pre {α : Type} {L : List α} {k : Nat} {x : α} (h : L[k]? = some x) : L.drop k = x :: L.drop (k + 1) := by
  obtain ⟨h1, h2⟩ := List.getElem?_eq_some_iff.mp h
  rw [← h2]
  exact List.drop_eq_getElem_cons h1
theorem ok__takings (T : Txt w K mg) : FnOk P w K mg base CX0 2 T.f__takings T.fd__takings ["found"] (sp_takings K) := by
  refine T.F__takings.ok sc__takings (fun vs H Q E h => ?_) (fun cdv A outer s H vs Q E hr h => ?_)
  · obtain ⟨L, a, fs, rfl, _⟩ := h
    rfl
  obtain ⟨L, a, fs, rfl, ha, hL, hok, hz, q⟩ := h
  have ll : L.length = fs.length := Paired.length hL
  refine ⟨_, (pss_cons (ps_set (i := 1) sc__takings.nd rfl (.inl rfl) (pe_lst pa_nil))
  (pss_cons (ps_set (i := 2) sc__takings.nd rfl (.inr rfl) (pe_lst pa_nil))
  (pss_cons (ps_for PassesOwn.never rfl (pi_reversed (by rfl) T.n_reversed (pa_cons (pv 0) pa_nil)) (pg_name (i := 3) sc__takings.nd rfl (.inl rfl))
   (pss_cons (ps_setLc (i := 4) (own := [("_", 6)]) (g := gName 6) (te := tBM0 K "list" rPop (tVar 2)) rfl sc__takings.nd rfl rfl (sw_true rfl rfl rfl (by decide +kernel)) (pi_list (pe_call (ok__inner T) (hr.mono (by decide)) (by rfl) T.m__inner T.F__inner.kp T.b__inner .nil pass0 (pa_cons (pv 3) pa_nil))) (blkOk_by (own := [("_", 6)]) (N := N__takings) (sc := defScope s__takings) (by decide +kernel)) (fun _ _ _ _ _ => by exact (pg_name (i := 6) sc__takings.nd rfl (.inl rfl))) (fun _ _ _ _ _ => by exact pts_nil) (fun _ _ _ _ _ => by exact (pe_bm0 PySem.F.plainAttrs_list PySem.F.slot_list_pop PySem.F.type_list_pop mt_pop (pv 2))))
  (pss_cons (ps_set (i := 5) sc__takings.nd rfl (.inl rfl) (pe_call (ok__may_take_nothing T) (hr.mono (by decide)) (by rfl) T.m__may_take_nothing T.F__may_take_nothing.kp T.b__may_take_nothing .nil pass0 (pa_cons (pe_ix ix_tup (pv 3) pe_int (fun _ _ => rfl)) (pa_cons (pv 4) pa_nil))))
  (pss_cons (ps_expr (pe_bm PySem.F.plainAttrs_list PySem.F.slot_list_append PySem.F.type_list_append mt_append (pv 2) (pa_cons (pv 5) pa_nil)))
  (pss_one (ps_expr (pe_bm PySem.F.plainAttrs_list PySem.F.slot_list_append PySem.F.type_list_append mt_append (pv 1) (pa_cons (pv 5) pa_nil))))))))
  (pss_one (ps_ret (pe_revL (pv 1))))))), ?_⟩
  refine ⟨Nat.zero_le _, fun lt nt => ?_⟩
  refine ⟨Nat.zero_le _, fun lo no => ?_⟩
  have nlo : lo ≠ lt := fun z => by
    rw [z, upd_same] at no
    cases no
  have no0 : H lo = none := by
    rw [upd_ne nlo] at no
    exact no
  have s0 := (same_new (o := .lst []) nt).trans (same_new (o := .lst []) no)
  refine ⟨_, rfl, a, fs, rfl, s0.seq ha, ?_⟩
  refine ⟨fun i m σ H' => m + i = fs.length ∧ ∃ (x1 x2 x3 : Option V), σ = [some (.ref a), some (.ref lt), some (.ref lo), x1, x2, x3, none] ∧ Same H H' ∧
    H' lt = some (.lst ((tk (L.drop m)).reverse.map V.bl)) ∧ H' lo = some (.lst ((stk (L.drop m)).reverse.map V.bl)), ⟨fs.length, by omega, none, none, none, rfl, s0, ?_, ?_⟩, ?_⟩
  · rw [upd_ne nlo.symm, ← ll, List.drop_length]
    exact upd_same
  · rw [← ll, List.drop_length]
    exact upd_same
  rintro i m σ H1 ⟨em, x1, x2, x3, rfl, s1, ht, ho⟩
  by_cases hi : m = 0
  · left
    refine ⟨by show fs.length ≤ i; omega, ?_⟩
    subst hi
    refine ⟨_, rfl, lt, _, rfl, SqL.of ht, fun r nr => ?_⟩
    refine q r _ (s1.trans (same_new nr)) (s1.free nr) ?_
    rw [upd_same]
    simp
  right
  obtain ⟨k, rfl⟩ : ∃ k, m = k + 1 := ⟨m - 1, by omega⟩
  have hk : fs.length - 1 - i = k := by omega
  refine ⟨⟨by omega, fs, fs[k]'(by omega), s1.seq ha, by rw [hk]; exact List.getElem?_eq_getElem _⟩, fun σ' H' => k + (i + 1) = fs.length ∧ ∃ (x1 x2 x3 : Option V), σ' = [some (.ref a), some (.ref lt), some (.ref lo), x1, x2, x3, none] ∧ Same H H' ∧
    H' lt = some (.lst ((tk (L.drop k)).reverse.map V.bl)) ∧ H' lo = some (.lst ((stk (L.drop k)).reverse.map V.bl)), fun σ' H' hN => ⟨k, by omega, hN⟩, ?_⟩
  rintro v H2 ⟨rfl, hv⟩
  have hv := hv fs (s1.seq ha)
  rw [hk] at hv
  obtain ⟨p, hp, pv⟩ := Paired.at hL hv
  have ed : L.drop k = p :: L.drop (k + 1) := drop_pre hp
  have hokk := okL_drop k hok
  rw [ed] at hokk
  obtain ⟨hlen, _⟩ := hokk
  have lst := stk_le (L.drop (k + 1))
  have ltk := tk_length (L.drop (k + 1))
  rw [List.length_drop] at lst ltk
  obtain ⟨b, wsn, rfl, hb, _⟩ := pv.node
  -- the answers of the inner ones
  refine ⟨_, rfl, p, _, rfl, pv.mono (TS.of s1), fun r ks H3 s3 nr hr3 hks => ⟨r, rfl, ⟨_, SqL.of hr3⟩, fun D nD => ?_⟩⟩
  have lks : (kids p).length = ks.length := Paired.length hks
  have nDlo : lo ≠ D := ne_of_none (s3 _ _ ho) nD
  have nDlt : lt ≠ D := ne_of_none (s3 _ _ ht) nD
  have nDr : r ≠ D := ne_of_none hr3 nD
  have nrlo : r ≠ lo := fun z => by
    rw [z, ho] at nr
    cases nr
  have nrlt : r ≠ lt := fun z => by
    rw [z, ht] at nr
    cases nr
  generalize hS : stk (L.drop (k + 1)) = S at *
  generalize hTK : tk (L.drop (k + 1)) = TK at *
  refine lc_list (K := K) (a := r) (xs := ks) (fun j H' => Same H H' ∧ H' r = some (.lst ks) ∧ H' lt = some (.lst (TK.reverse.map V.bl)) ∧ H' lo = some (.lst ((S.drop j).reverse.map V.bl)) ∧ H' D = some (.lst ((S.take j).map V.bl)))
    ⟨?_, ?_, ?_, ?_, ?_⟩ (fun j H' _ hI => SqL.of hI.2.1) ?_ ?_
  · exact (s1.trans s3).trans (same_new nD)
  · rw [upd_ne nDr]
    exact hr3
  · rw [upd_ne nDlt]
    exact s3 _ _ ht
  · rw [upd_ne nDlo]
    exact s3 _ _ ho
  · rw [List.take_zero]
    exact upd_same
  · rintro j y H4 hj ⟨sa, sb, sc, sd, se⟩
    have jl : j < ks.length := (List.getElem?_eq_some_iff.mp hj).1
    have jS : j < S.length := by omega
    refine ⟨rfl, yes_if ?_⟩
    have eS : S.drop j = S[j] :: S.drop (j + 1) := List.drop_eq_getElem_cons jS
    rw [eS, List.reverse_cons, List.map_append] at sd
    refine ⟨_, rfl, .inl ⟨rfl, _, SqL.of sd⟩, lo, _, .bl S[j], rfl, rfl, sd, last_get _ _, ?_⟩
    show ∃ acc, _
    refine ⟨(S.take j).map V.bl, ?_, ?_, ?_⟩
    · rw [upd_ne nDlo.symm]
      exact se
    · rw [List.length_map, List.length_take]
      exact szl (by omega)
    refine ⟨?_, ?_, ?_, ?_, ?_⟩
    · exact Same.mut (Same.mut sa no0) (s1.free (s3.free nD))
    · rw [upd_ne nDr, upd_ne nrlo]
      exact sb
    · rw [upd_ne nDlt, upd_ne nlo.symm]
      exact sc
    · rw [upd_ne nDlo]
      show upd H4 lo (HO.lst (List.map V.bl (S.drop (j + 1)).reverse ++ [V.bl S[j]]).dropLast) lo = _
      rw [List.dropLast_concat]
      exact upd_same
    · rw [upd_same, ← List.take_append_getElem jS, List.map_append]
      rfl
  · rintro H4 ⟨sa, sb, sc, sd, se⟩
    rw [← lks] at sd se
    have tb := TS.of (K := K) sa _ _ (show SqT K H b _ from hb)
    refine ⟨_, rfl, _, _, _, _, rfl, rfl, tb, at0 rfl, _, rfl, nm p, D, S.take (kids p).length, rfl, SqL.of se, fun H5 s5 => ?_⟩
    have so := s5 _ _ sd
    have st := s5 _ _ sc
    refine ⟨_, rfl, .inl ⟨rfl, _, SqL.of so⟩, _, rfl, lo, _, _, rfl, rfl, so, szl ?_, ?_⟩
    · simp
      omega
    have st2 : upd H5 lo (.lst (((S.drop (kids p).length).reverse.map V.bl) ++ [.bl (mtn (nm p) (S.take (kids p).length))])) lt = some (.lst (TK.reverse.map V.bl)) := by
      rw [upd_ne nlo.symm]
      exact st
    refine ⟨_, rfl, .inl ⟨rfl, _, SqL.of st2⟩, _, rfl, lt, _, _, rfl, rfl, st2, szl ?_, ?_⟩
    · simp
      omega
    refine ⟨by omega, _, _, _, rfl, Same.mut (Same.mut (sa.trans s5) no0) nt, ?_, ?_⟩
    · rw [upd_same, ed]
      show _ = some (HO.lst (List.map V.bl (mtn (nm p) ((stk (L.drop (k + 1))).take (kids p).length) :: tk (L.drop (k + 1))).reverse))
      rw [hS, hTK]
      simp
    · rw [upd_ne nlo, upd_same, ed]
      show _ = some (HO.lst (List.map V.bl (mtn (nm p) ((stk (L.drop (k + 1))).take (kids p).length) :: (stk (L.drop (k + 1))).drop (kids p).length).reverse))
      rw [hS]
      simp

end
end G1

set_option maxRecDepth 100000
set_option maxHeartbeats 4000000
namespace G1
open PySem PySem.Spec PyProof.Rows L2 Gm
section
variable {P : Program} {w : World} {K : PySem.W.Frag} {mg : Str → Option Value} {base : Heap}
def sp_cell_at (K : PySem.W.Frag) : Sp := fun vs H Q _ => ∃ (a : Addr) (ns : List Int) (k : Nat), vs = [.ref a, .int (k : Int)] ∧ SqL K H a (ns.map V.int) ∧ Q (.int (cellAt ns k)) H
theorem ok__law_cell_at (T : Txt w K mg) : FnOk P w K mg base CX0 1 T.f__law_cell_at T.fd__law_cell_at ["_law_script", "_law_k"] (sp_cell_at K) := by
  refine T.F__law_cell_at.ok sc__law_cell_at (fun vs H Q E h => ?_) (fun cdv A outer s H vs Q E hr h => ?_)
  · obtain ⟨a, ns, k, rfl, _⟩ := h
    rfl
  obtain ⟨a, ns, k, rfl, ha, q⟩ := h
  refine ⟨_, (pss_cons (ps_if (pt_cmpR op_lt (pv 1) (pe_callB call_len_seq (by rfl) T.n_len PySem.boot_len (pa_cons (pv 0) pa_nil)) (nomark _))
    (pss_one (ps_ret (pe_ix ix_list (pv 0) (pv 1) (fun _ _ => rfl))))
    pss_nil)
  (pss_one (ps_ret pe_int))), ?_⟩
  refine ⟨_, rfl, _, rfl, a, _, rfl, .inl ha, _, _, rfl, rfl, _, rfl, ?_⟩
  refine ite2 (fun c => ?_) (fun c => ?_)
  · have c' : (k : Int) < (((ns.map V.int).length : Nat) : Int) := of_decide_eq_true c
    rw [List.length_map] at c'
    have hk : k < ns.length := by omega
    refine ⟨_, rfl, _, rfl, a, _, _, .int (cellAt ns k), rfl, rfl, ha, atI_nat ?_, q⟩
    rw [List.getElem?_map, List.getElem?_eq_getElem hk]
    unfold cellAt
    rw [List.getD_eq_getElem?_getD, List.getElem?_eq_getElem hk]
    rfl
  · have c' : ¬ (k : Int) < (((ns.map V.int).length : Nat) : Int) := of_decide_eq_false (Bool.eq_false_iff.mpr c)
    rw [List.length_map] at c'
    have e : cellAt ns k = 0 := by
      unfold cellAt
      rw [List.getD_eq_getElem?_getD, List.getElem?_eq_none (by omega)]
      rfl
    rw [e] at q
    exact q
def sp_sign : Sp := fun vs H Q _ => ∃ c : Int, vs = [.int c] ∧ Q (.str ⟨#[lsg c]⟩) H
theorem ok__law_sign (T : Txt w K mg) : FnOk P w K mg base CX0 1 T.f__law_sign T.fd__law_sign ["_law_cell"] sp_sign := by
  refine T.F__law_sign.ok sc__law_sign (fun vs H Q E h => ?_) (fun cdv A outer s H vs Q E hr h => ?_)
  · obtain ⟨c, rfl, _⟩ := h
    rfl
  obtain ⟨c, rfl, q⟩ := h
  refine ⟨_, (pss_cons (ps_set (i := 1) sc__law_sign.nd rfl (.inl rfl) pe_str)
  (pss_cons (ps_set (i := 1) sc__law_sign.nd rfl (.inl rfl) (pe_op op_add_str (pv 1) pe_str))
  (pss_one (ps_ret (pe_ix ix_str (pv 1) (pe_op op_mod (pv 0) pe_int) (fun _ _ => rfl)))))), ?_⟩
  refine ⟨_, rfl, _, _, rfl, rfl, sz (by decide +kernel), ?_⟩
  refine ⟨_, rfl, _, rfl, _, _, rfl, rfl, (by show (0 : Int) < 95; decide), tabS, _, lsg c, rfl, rfl, sz (by rw [tab_len]; decide), lsg_at c, q⟩

end
end G1

set_option maxRecDepth 100000
set_option maxHeartbeats 4000000
namespace G1
open PySem PySem.Spec PyProof.Rows L2 Gm
section
variable {P : Program} {w : World} {K : PySem.W.Frag} {mg : Str → Option Value} {base : Heap}
def sp_numbers_among (K : PySem.W.Frag) : Sp := fun vs H Q _ => ∃ (L : List Pat) (a : Addr) (fs : List V), vs = [.ref a] ∧ SqL K H a fs ∧ PAts K H L fs ∧ L.length ≤ 1000 ∧
  ∀ (r : Addr) (H' : Hp), Same H H' → H r = none → H' r = some (.lst ((nums L).map V.int)) → Q (.ref r) H'
theorem nums_take {L : List Pat} {i : Nat} {p : Pat} (h : L[i]? = some p) : nums (L.take (i + 1)) = nums (L.take i) ++ nums [p] := by
  obtain ⟨h1, h2⟩ := List.getElem?_eq_some_iff.mp h
  rw [← List.take_append_getElem h1, h2]
  unfold nums
  rw [List.filterMap_append]
theorem nums_len (L : List Pat) : (nums L).length ≤ L.length := List.length_filterMap_le _ _
/-- one turn of the walk that keeps the groups' numbers -/
theorem nums_turn {H0 H : Hp} {D : Addr} {L : List Pat} {fs : List V} {i j : Nat} {v : V} {σ : L2.St} (hn : H0 D = none) (hj : (σ.set j (some v))[j]? = some (some v)) (hL : PAts K H L fs) (hi : fs[i]? = some v) (h1 : Same H0 H) (hz : L.length ≤ 1000)
    (h2 : H D = some (.lst ((nums (L.take i)).map V.int))) :
    tTest (tOp rEq (tOp (rIxT K) (tVar j) (tC (.int 0))) (tC (.str "group"))) (σ.set j (some v)) H fun b H3 => if b = true then tOp (rIxT K) (tVar j) (tC (.int 1)) (σ.set j (some v)) H3 fun y H4 => ∃ acc, H4 D = some (.lst acc) ∧ acc.length < sizeLine ∧
      (Same H0 (upd H4 D (.lst (acc ++ [y]))) ∧ upd H4 D (.lst (acc ++ [y])) D = some (.lst ((nums (L.take (i + 1))).map V.int))) else Same H0 H3 ∧ H3 D = some (.lst ((nums (L.take (i + 1))).map V.int)) := by
  obtain ⟨p, hp, pv⟩ := Paired.at hL hi
  obtain ⟨b, ws, rfl, hb, _⟩ := pv.node
  have hl : (nums (L.take i)).length ≤ 1000 := Nat.le_trans (nums_len _) (by rw [List.length_take]; omega)
  refine ⟨_, hj, _, _, _, _, rfl, rfl, hb, at0 rfl, rfl, _, rfl, ?_⟩
  rw [nums_take hp]
  cases p with
  | group n p =>
    refine iteT ?_
    refine ⟨_, hj, _, _, _, _, rfl, rfl, hb, at1 rfl, _, h2, szl (by rw [List.length_map]; omega), Same.mut h1 hn, ?_⟩
    rw [upd_same, List.map_append]
    rfl
  | _ =>
    refine iteF ⟨h1, ?_⟩
    rw [h2]
    simp [nums]
theorem ok__numbers_among (T : Txt w K mg) : FnOk P w K mg base CX0 1 T.f__numbers_among T.fd__numbers_among ["found"] (sp_numbers_among K) := by
  refine T.F__numbers_among.ok sc__numbers_among (fun vs H Q E h => ?_) (fun cdv A outer s H vs Q E hr h => ?_)
  · obtain ⟨L, a, fs, rfl, _⟩ := h
    rfl
  obtain ⟨L, a, fs, rfl, ha, hL, hz, q⟩ := h
  have ll : L.length = fs.length := Paired.length hL
  refine ⟨_, (pss_one (ps_ret (pe_lc (own := [("part", 1)]) (g := gName 1) (te := tOp (rIxT K) (tVar 1) (tC (.int 1))) (tt := tTest (tOp rEq (tOp (rIxT K) (tVar 1) (tC (.int 0))) (tC (.str "group")))) rfl sc__numbers_among.nd (pi_list (pv 0)) (blkOk_by (own := [("part", 1)]) (N := N__numbers_among) (sc := defScope s__numbers_among) (by decide +kernel)) (fun _ _ _ _ _ => by exact (pg_name (i := 1) sc__numbers_among.nd rfl (.inl rfl))) (fun _ _ _ _ _ => by exact (pts_one (pt_cmpR op_eq (pe_ix ix_tup (pv 1) pe_int (fun _ _ => rfl)) pe_str (nomark _)))) (fun _ _ _ _ _ => by exact (pe_ix ix_tup (pv 1) pe_int (fun _ _ => rfl)))))), ?_⟩
  refine ⟨_, rfl, a, rfl, ⟨_, ha⟩, fun D nD => ?_⟩
  refine lc_list (K := K) (a := a) (xs := fs) (fun i H' => Same H H' ∧ H' D = some (.lst ((nums (L.take i)).map V.int))) ⟨same_new nD, by rw [List.take_zero]; exact upd_same⟩ (fun j H' _ hI => hI.1.seq ha) ?_ ?_
  · rintro i v H1 hi ⟨h1, h2⟩
    exact ⟨rfl, nums_turn nD rfl (hL.mono (TS.of h1)) hi h1 hz h2⟩
  · rintro H1 ⟨h1, h2⟩
    rw [← ll, List.take_length] at h2
    exact q D H1 h1 nD h2

end
end G1

set_option maxRecDepth 100000
set_option maxHeartbeats 4000000
namespace G1
open PySem PySem.Spec PyProof.Rows L2 Gm
section
variable {P : Program} {w : World} {K : PySem.W.Frag} {mg : Str → Option Value} {base : Heap}
def sp_has_twins (K : PySem.W.Frag) : Sp := fun vs H Q _ => ∃ (a : Addr) (ns : List Int), vs = [.ref a] ∧ SqL K H a (ns.map V.int) ∧ ns.length ≤ 1000 ∧ Q (.bl (decide (¬ ns.Nodup))) H
theorem ok__has_twins (T : Txt w K mg) : FnOk P w K mg base CX0 1 T.f__has_twins T.fd__has_twins ["many"] (sp_has_twins K) := by
  refine T.F__has_twins.ok sc__has_twins (fun vs H Q E h => ?_) (fun cdv A outer s H vs Q E hr h => ?_)
  · obtain ⟨a, ns, rfl, _⟩ := h
    rfl
  obtain ⟨a, ns, rfl, ha, hz, q⟩ := h
  refine ⟨_, (pss_one (ps_ret (pe_cmpR op_lt (pe_lenSetG (by rfl) T.n_len (by rfl) T.n_set (pv 0)) (pe_callB call_len_seq (by rfl) T.n_len PySem.boot_len (pa_cons (pv 0) pa_nil)) (nomark _)))), ?_⟩
  refine ⟨_, rfl, a, ns, rfl, ha, by omega, _, rfl, a, _, rfl, .inl ha, _, _, rfl, rfl, ?_⟩
  show Q (.bl (decide ((((firstMet (fun i => ns.getD i 0) ns.length).length : Nat) : Int) < (((ns.map V.int).length : Nat) : Int)))) H
  rw [List.length_map]
  have e : decide ((((firstMet (fun i => ns.getD i 0) ns.length).length : Nat) : Int) < ((ns.length : Nat) : Int)) = decide (¬ ns.Nodup) := by
    rw [Bool.eq_iff_iff, decide_eq_true_iff, decide_eq_true_iff]
    exact twins_iff ns
  rw [e]
  exact q

end
end G1

set_option maxRecDepth 100000
set_option maxHeartbeats 4000000
namespace G1
open PySem PySem.Spec PyProof.Rows L2 Gm
section
variable {P : Program} {w : World} {K : PySem.W.Frag} {mg : Str → Option Value} {base : Heap}
theorem erl_take {L : List Pat} {i : Nat} {p : Pat} (h : L[i]? = some p) : erl (L.take (i + 1)) = erl (L.take i) ++ erl [p] := by
  obtain ⟨h1, h2⟩ := List.getElem?_eq_some_iff.mp h
  rw [← List.take_append_getElem h1, h2]
  unfold erl
  rw [List.filterMap_append]
def sp_has_empty (K : PySem.W.Frag) : Sp := fun vs H Q _ => ∃ (p : Pat) (a : Addr) (fs : List V), vs = [.ref a] ∧ SqL K H a fs ∧ PAts K H (subs p) fs ∧ siz p ≤ 1000 ∧
  ∀ (H' : Hp), Same H H' → Q (.bl ((erl (subs p)).any id)) H'
theorem ok__has_empty_round (T : Txt w K mg) : FnOk P w K mg base CX0 3 T.f__has_empty_round T.fd__has_empty_round ["found"] (sp_has_empty K) := by
  refine T.F__has_empty_round.ok sc__has_empty_round (fun vs H Q E h => ?_) (fun cdv A outer s H vs Q E hr h => ?_)
  · obtain ⟨p, a, fs, rfl, _⟩ := h
    rfl
  obtain ⟨p, a, fs, rfl, ha, hL, hz, q⟩ := h
  have ll : (subs p).length = fs.length := Paired.length hL
  have e := stk_subs p []
  rw [List.append_nil] at e
  refine ⟨_, (pss_cons (ps_set (i := 1) sc__has_empty_round.nd rfl (.inr rfl) (pe_call (ok__takings T) (hr.mono (by decide)) (by rfl) T.m__takings T.F__takings.kp T.b__takings .nil pass0 (pa_cons (pv 0) pa_nil)))
  (pss_one (ps_ret (pe_callB (cr_any rfl) (by rfl) T.n_any (by decide +kernel) (pa_cons (pe_lc (own := [("at", 2), ("part", 3)]) (g := gTup K 2 (gCons (gName 2) (gCons (gName 3) gNil))) (te := tOp (rIxL K) (tVar 1) (tOp (rI0 fun i j => .int (i + j)) (tVar 2) (tC (.int 1)))) (tt := tTest (tOp (rIn K false) (tOp (rIxT K) (tVar 3) (tC (.int 0))) (tTup (tCons (tC (.str "more")) (tCons (tC (.str "less")) tNil))))) rfl sc__has_empty_round.nd (pi_enum (by rfl) T.n_enumerate (pa_cons (pv 0) pa_nil)) (blkOk_by (own := [("at", 2), ("part", 3)]) (N := N__has_empty_round) (sc := defScope s__has_empty_round) (by decide +kernel)) (fun _ _ _ _ _ => by exact (pg_tup rfl (pgs_cons (pg_name (i := 2) sc__has_empty_round.nd rfl (.inl rfl)) (pgs_cons (pg_name (i := 3) sc__has_empty_round.nd rfl (.inl rfl)) pgs_nil)))) (fun _ _ _ _ _ => by exact (pts_one (pt_cmpR op_in_seq (pe_ix ix_tup (pv 3) pe_int (fun _ _ => rfl)) (pe_tup (pa_cons pe_str (pa_cons pe_str pa_nil))) (by rfl)))) (fun _ _ _ _ _ => by exact (pe_ix ix_list (pv 1) (pe_op op_add (pv 2) pe_int) (fun _ _ => rfl)))) pa_nil))))), ?_⟩
  refine ⟨_, rfl, subs p, a, fs, rfl, ha, hL, e.2.2 trivial, hz, fun lt H1 s1 _ ht => ?_⟩
  rw [e.2.1, show tk [] = [] from rfl, List.append_nil] at ht
  refine ⟨_, rfl, a, fs, rfl, s1.seq ha, fun D nD => ?_⟩
  refine lc_it (walk_enum (xs := fs)) (fun i H' => Same H1 H' ∧ H' D = some (.lst ((erl ((subs p).take i)).map V.bl))) ⟨same_new nD, by rw [List.take_zero]; exact upd_same⟩ (fun i H' _ hI => hI.1.seq (s1.seq ha)) ?_ ?_
  · rintro i v H2 H3 hi ⟨s2, hD⟩ ⟨t, _, y, rfl, nt, rfl, ey, hy⟩
    cases ey
    obtain ⟨p1, hp1, pv⟩ := Paired.at hL hy
    have s3 := s2.trans (same_new (o := .tup [.int ((i : Nat) : Int), y]) nt)
    obtain ⟨b, ws, rfl, hb, _⟩ := (pv.mono (TS.of (K := K) (s1.trans s3))).node
    have hD3 : upd H2 t (.tup [.int ((i : Nat) : Int), .ref b]) D = some (.lst ((erl ((subs p).take i)).map V.bl)) := same_new nt _ _ hD
    have el : (erl ((subs p).take i)).length ≤ 1000 := Nat.le_trans (List.length_filterMap_le _ _) (by rw [List.length_take]; have : (subs p).length ≤ 1000 := hz; omega)
    refine ⟨t, _, rfl, SqT.of upd_same, rfl, _, _, rfl, _, _, rfl, rfl, rfl, ?_⟩
    refine ⟨_, rfl, _, _, _, _, rfl, rfl, hb, at0 rfl, sz (by show 2 ≤ 10000; decide), fun t2 n2 => ⟨_, _, rfl, .inr (SqT.of upd_same), rfl, rfl, _, rfl, ?_⟩⟩
    have s4 := s3.trans (same_new (o := .tup [.str "more", .str "less"]) n2)
    have hD4 := same_new (o := .tup [.str "more", .str "less"]) n2 _ _ hD3
    have ht4 := s4 _ _ ht
    rw [erl_take hp1]
    have take : ∀ q, (p1 = .more q ∨ p1 = .less q) → (V.bl (nul q)) = V.bl (nul q) ∧ ((subs p).map nul |>.map V.bl)[i + 1]? = some (.bl (nul q)) := fun q hq => by
      refine ⟨rfl, ?_⟩
      have := next_part' (p := p) (q := q) (i := i) (by rcases hq with rfl | rfl; exact .inl hp1; exact .inr hp1)
      rw [List.getElem?_map, List.getElem?_map, this]
      rfl
    cases p1 with
    | more q1 =>
      refine iteT ?_
      refine ⟨_, rfl, _, rfl, _, _, rfl, rfl, lt, _, _, .bl (nul q1), rfl, rfl, SqL.of ht4, at_of (j := i + 1) (by show ((i : Nat) : Int) + 1 = _; omega) (take q1 (.inl rfl)).2, ?_⟩
      refine ⟨_, hD4, szl (by rw [List.length_map]; omega), Same.mut s4 nD, ?_⟩
      rw [upd_same, List.map_append]
      rfl
    | less q1 =>
      refine iteT ?_
      refine ⟨_, rfl, _, rfl, _, _, rfl, rfl, lt, _, _, .bl (nul q1), rfl, rfl, SqL.of ht4, at_of (j := i + 1) (by show ((i : Nat) : Int) + 1 = _; omega) (take q1 (.inr rfl)).2, ?_⟩
      refine ⟨_, hD4, szl (by rw [List.length_map]; omega), Same.mut s4 nD, ?_⟩
      rw [upd_same, List.map_append]
      rfl
    | _ =>
      refine iteF ⟨s4, ?_⟩
      rw [hD4]
      simp [erl]
  · rintro H2 ⟨s2, hD⟩
    rw [← ll, List.take_length] at hD
    exact ⟨D, _, rfl, SqL.of hD, q H2 (s1.trans s2)⟩

end
end G1

set_option maxRecDepth 100000
set_option maxHeartbeats 4000000
namespace G1
open PySem PySem.Spec PyProof.Rows L2 Gm
section
variable {P : Program} {w : World} {K : PySem.W.Frag} {mg : Str → Option Value} {base : Heap}
theorem kit_ref {t : Value} {C : Addr} {b : Bool} (hd : PySem.W.hasDictIn K C = true) (ht : PySem.W.typeIn K (.ref C) = some (.type "type")) (hs : PySem.W.subIn K t (.ref C) = some b) (hself : PySem.W.subIn K (.ref C) (.ref C) = some true) :
    PySem.W.kitOne K t (.ref C) = some b := by
  unfold PySem.W.kitOne
  by_cases e : (t == Value.ref C) = true
  · rw [if_pos e]
    rw [beq_iff_eq.mp e] at hs
    exact hself.symm.trans hs
  · rw [if_neg e]
    obtain ⟨cd, hc, _⟩ := PySem.W.any_some hd
    have e2 : ((PySem.W.clsIn K C).isSome && PySem.W.typeIn K (.ref C) == some (.type "type")) = true := by rw [hc, ht] <;> rfl
    show (if ((PySem.W.clsIn K C).isSome && PySem.W.typeIn K (.ref C) == some (.type "type")) = true then PySem.W.subIn K t (.ref C) else none) = some b
    rw [if_pos e2]
    exact hs
theorem kit_ve {D : Addr} (hs : PySem.W.subIn K (.ref D) (.type "ValueError") = some true) : PySem.W.kitOne K (.ref D) (.type "ValueError") = some true := by
  unfold PySem.W.kitOne
  rw [if_neg (by simp)]
  show (if PySem.W.kitMeta "ValueError" = true then PySem.W.subIn K (.ref D) (.type "ValueError") else none) = some true
  rw [if_pos (by decide +kernel)]
  exact hs

end
end G1

set_option maxRecDepth 100000
set_option maxHeartbeats 4000000
namespace G1
open PySem PySem.Spec PyProof.Rows L2 Gm
section
variable {P : Program} {w : World} {K : PySem.W.Frag} {mg : Str → Option Value} {base : Heap}
def sp_checked (K : PySem.W.Frag) : Sp := fun vs H Q _ => ∃ (p : Pat) (v : V), vs = [v] ∧ PAt K H p v ∧ siz p ≤ 1000 ∧ goodP p ∧ ∀ H', Same H H' → Q v H'
theorem ok_checked (T : Txt w K mg) : FnOk P w K mg base CX0 4 T.f_checked T.fd_checked ["pattern"] (sp_checked K) := by
  refine T.F_checked.ok sc_checked (fun vs H Q E h => ?_) (fun cdv A outer s H vs Q E hr h => ?_)
  · obtain ⟨p, v, rfl, _⟩ := h
    rfl
  obtain ⟨p, v, rfl, hp, hz, ⟨g1, g2⟩, q⟩ := h
  refine ⟨_, (pss_cons (ps_set (i := 1) sc_checked.nd rfl (.inl rfl) (pe_call (ok_parts T) (hr.mono (by decide)) (by rfl) T.m_parts T.F_parts.kp T.b_parts .nil pass0 (pa_cons (pv 0) pa_nil)))
  (pss_cons (ps_if (pt_val (pe_call (ok__has_twins T) (hr.mono (by decide)) (by rfl) T.m__has_twins T.F__has_twins.kp T.b__has_twins .nil pass0 (pa_cons (pe_call (ok__numbers_among T) (hr.mono (by decide)) (by rfl) T.m__numbers_among T.F__numbers_among.kp T.b__numbers_among .nil pass0 (pa_cons (pv 1) pa_nil)) pa_nil)))
    (pss_one ps_never)
    pss_nil)
  (pss_cons (ps_if (pt_val (pe_call (ok__has_empty_round T) (hr.mono (by decide)) (by rfl) T.m__has_empty_round T.F__has_empty_round.kp T.b__has_empty_round .nil pass0 (pa_cons (pv 1) pa_nil)))
    (pss_one ps_never)
    pss_nil)
  (pss_one (ps_ret (pv 0)))))), ?_⟩
  refine ⟨_, rfl, p, v, rfl, hp, hz, fun r fs H1 s1 _ h1 hf => ?_⟩
  refine ⟨_, rfl, subs p, r, fs, rfl, SqL.of h1, hf, hz, fun r2 H2 s2 n2 h2 => ?_⟩
  refine ⟨r2, nums (subs p), rfl, SqL.of h2, Nat.le_trans (List.length_filterMap_le _ _) hz, ?_⟩
  have e : decide (¬ (nums (subs p)).Nodup) = false := decide_eq_false fun h => h g1
  rw [e]
  refine ⟨_, rfl, iteF ?_⟩
  refine ⟨_, rfl, p, r, fs, rfl, SqL.of (s2 _ _ h1), hf.mono (TS.of s2), hz, fun H3 s3 => ?_⟩
  rw [g2]
  refine ⟨_, rfl, iteF ?_⟩
  exact ⟨_, rfl, q H3 ((s1.trans s2).trans s3)⟩

end
end G1

set_option maxRecDepth 100000
set_option maxHeartbeats 4000000
namespace G1
open PySem PySem.Spec PyProof.Rows L2 Gm
section
variable {P : Program} {w : World} {K : PySem.W.Frag} {mg : Str → Option Value} {base : Heap}
def sp_first_state (K : PySem.W.Frag) : Sp := fun vs H Q _ => ∃ (p : Pat) (v : V), vs = [v] ∧ PAt K H p v ∧ ∀ (t : Addr) (H' : Hp), Same H H' → SAt K H' ([.pat p], 0) (.ref t) → Q (.ref t) H'
theorem ok_first_state (T : Txt w K mg) : FnOk P w K mg base CX0 1 T.f_first_state T.fd_first_state ["pattern"] (sp_first_state K) := by
  refine T.F_first_state.ok sc_first_state (fun vs H Q E h => ?_) (fun cdv A outer s H vs Q E hr h => ?_)
  · obtain ⟨p, v, rfl, _⟩ := h
    rfl
  obtain ⟨p, v, rfl, hp, q⟩ := h
  refine ⟨_, (pss_one (ps_ret (pe_tup (pa_cons (pe_tup (pa_cons (pv 0) pa_nil)) (pa_cons pe_int pa_nil))))), ?_⟩
  refine ⟨_, rfl, sz (by show 1 ≤ 10000; decide), fun t1 n1 => ⟨sz (by show 2 ≤ 10000; decide), fun t2 n2 => ?_⟩⟩
  have s2 := (same_new (o := .tup [v]) n1).trans (same_new (o := .tup [.ref t1, .int 0]) n2)
  exact q t2 _ s2 ⟨t2, .ref t1, rfl, SqT.of upd_same, t1, [v], rfl, TS.of (K := K) (same_new n2) _ _ (SqT.of upd_same), .cons (hp.mono (TS.of s2)) .nil⟩
def sp_is_end (K : PySem.W.Frag) : Sp := fun vs H Q _ => ∃ (x : Sta) (v : V) (z : Str), vs = [v, .str z] ∧ SAt K H x v ∧ gd 50 x.1 ∧ z.length ≤ 1000 ∧ ∀ H', Same H H' → Q (.bl (isEnd z x)) H'
theorem ok_is_end (T : Txt w K mg) : FnOk P w K mg base CX0 1 T.f_is_end T.fd_is_end ["state", "text"] (sp_is_end K) := by
  refine T.F_is_end.ok sc_is_end (fun vs H Q E h => ?_) (fun cdv A outer s H vs Q E hr h => ?_)
  · obtain ⟨x, v, z, rfl, _⟩ := h
    rfl
  obtain ⟨x, v, z, rfl, hx, hg, hz, q⟩ := h
  refine ⟨_, (pss_one (ps_ret (pe_cmpR (op_eqD hr.units) (pv 0) (pe_tup (pa_cons (pe_tup pa_nil) (pa_cons (pe_callB call_len (by rfl) T.n_len PySem.boot_len (pa_cons (pv 1) pa_nil)) pa_nil))) (nomark _)))), ?_⟩
  refine ⟨_, rfl, Nat.zero_le _, fun t1 n1 => ?_⟩
  refine ⟨_, rfl, _, _, rfl, ⟨sz (by omega), rfl⟩, sz (by show 2 ≤ 10000; decide), fun t2 n2 => ?_⟩
  have s2 := (same_new (o := .tup []) n1).trans (same_new (o := .tup [.ref t1, .int ((z.length : Nat) : Int)]) n2)
  have de : Dp K (upd (upd H t1 (.tup [])) t2 (.tup [.ref t1, .int ((z.length : Nat) : Int)])) (.ref t2) (.tuple [.tuple [], .int ((z.length : Nat) : Int)]) :=
    .tup (SqT.of upd_same) (.cons (.tup (TS.of (K := K) (same_new n2) _ _ (SqT.of upd_same)) .nil) (.cons (.int _) .nil))
  have hx2 := hx.mono (TS.of (K := K) s2)
  refine ⟨spd x, _, hx2.dp, de, shaped_of hx2.lay (Nat.le_trans (spd_depth hg) (by decide)), shaped_of (lay_tup (lay_cons (lay_tup lay_nil) (lay_cons (lay_int _) lay_nil))) (by simp [PyData.depth, PyData.depthAll]), ?_⟩
  rw [eqv_end]
  exact q _ s2
/-- whether a sign or an any takes the text y -/
def takes (p : Pat) (y : Str) : Bool := match p with
  | .sign c => decide (V.str y = V.str ⟨#[c]⟩)
  | _ => !decide (V.str y = V.str "")
def sp_takes (K : PySem.W.Frag) : Sp := fun vs H Q _ => ∃ (p : Pat) (v : V) (y : Str), vs = [v, .str y] ∧ PAt K H p v ∧ (p = .any ∨ ∃ c, p = .sign c) ∧ Q (.bl (takes p y)) H
theorem ok__takes (T : Txt w K mg) : FnOk P w K mg base CX0 1 T.f__takes T.fd__takes ["thing", "sign"] (sp_takes K) := by
  refine T.F__takes.ok sc__takes (fun vs H Q E h => ?_) (fun cdv A outer s H vs Q E hr h => ?_)
  · obtain ⟨p, v, y, rfl, _⟩ := h
    rfl
  obtain ⟨p, v, y, rfl, hp, hs, q⟩ := h
  obtain ⟨a, ws, rfl, ht, _⟩ := hp.node
  refine ⟨_, (pss_cons (ps_if (pt_cmpR op_eq (pe_ix ix_tup (pv 0) pe_int (fun _ _ => rfl)) pe_str (nomark _))
    (pss_one (ps_ret (pe_cmpR op_ne (pv 1) pe_str (nomark _))))
    pss_nil)
  (pss_one (ps_ret (pe_cmpR op_eq (pv 1) (pe_ix ix_tup (pv 0) pe_int (fun _ _ => rfl)) (nomark _))))), ?_⟩
  refine ⟨_, rfl, _, _, _, _, rfl, rfl, ht, at0 rfl, rfl, _, rfl, ?_⟩
  rcases hs with rfl | ⟨c, rfl⟩
  · refine iteT ?_
    exact ⟨_, rfl, rfl, q⟩
  · refine iteF ?_
    exact ⟨_, rfl, _, rfl, _, _, _, _, rfl, rfl, ht, at1 rfl, rfl, q⟩
def sp_unfolded (K : PySem.W.Frag) : Sp := fun vs H Q _ => ∃ (t : Th) (v : V), vs = [v] ∧ TAt K H t v ∧
  ∀ (r : Addr) (ws : List V) (H' : Hp), Same H H' → H r = none → H' r = some (.lst ws) → Paired (RAt K H') (unf t) ws → Q (.ref r) H'
theorem ok__unfolded (T : Txt w K mg) : FnOk P w K mg base CX0 1 T.f__unfolded T.fd__unfolded ["thing"] (sp_unfolded K) := by
  refine T.F__unfolded.ok sc__unfolded (fun vs H Q E h => ?_) (fun cdv A outer s H vs Q E hr h => ?_)
  · obtain ⟨t, v, rfl, _⟩ := h
    rfl
  obtain ⟨t, v, rfl, hv, q⟩ := h
  refine ⟨_, (pss_one (ps_match (pv 0)
   (pm_case2 (i := 1) (j := 2) rfl sc__unfolded.nd rfl rfl rfl rfl (pss_one (ps_ret (pe_lst (pa_cons (pe_tup (pa_cons (pv 1) (pa_cons (pv 2) pa_nil))) pa_nil))))
   (pm_case2 (i := 1) (j := 2) rfl sc__unfolded.nd rfl rfl rfl rfl (pss_one (ps_ret (pe_lst (pa_cons (pe_tup (pa_cons (pv 1) pa_nil)) (pa_cons (pe_tup (pa_cons (pv 2) pa_nil)) pa_nil)))))
   (pm_case1 (i := 1) rfl sc__unfolded.nd rfl rfl (pss_one (ps_ret (pe_lst (pa_cons (pe_tup (pa_cons (pv 1) (pa_cons (pv 0) pa_nil))) (pa_cons (pe_tup pa_nil) pa_nil)))))
   (pm_case1 (i := 1) rfl sc__unfolded.nd rfl rfl (pss_one (ps_ret (pe_lst (pa_cons (pe_tup pa_nil) (pa_cons (pe_tup (pa_cons (pv 1) (pa_cons (pv 0) pa_nil))) pa_nil)))))
   (pm_case2 (i := 3) (j := 1) rfl sc__unfolded.nd rfl rfl rfl rfl (pss_one (ps_ret (pe_lst (pa_cons (pe_tup (pa_cons (pv 1) (pa_cons (pe_tup (pa_cons pe_str (pa_cons (pv 3) pa_nil))) pa_nil))) pa_nil))))
   (pm_wild (pss_one (ps_ret (pe_lst (pa_cons (pe_tup pa_nil) pa_nil)))))))))))), ?_⟩
  cases t with
  | close n =>
    obtain ⟨a, rfl, ht⟩ := hv
    refine ⟨_, rfl, a, _, _, rfl, ht, .inr ⟨.inl (by decide +kernel), a, _, _, rfl, ht, .inr ⟨.inl (by decide +kernel), a, _, _, rfl, ht, .inr ⟨.inl (by decide +kernel), a, _, _, rfl, ht, .inr ⟨.inl (by decide +kernel), a, _, _, rfl, ht, .inr ⟨.inl (by decide +kernel), ?_⟩⟩⟩⟩⟩⟩
    refine ⟨Nat.zero_le _, fun t1 n1 => ⟨sz (by show 1 ≤ 10000; decide), fun r nr => ?_⟩⟩
    exact q r _ _ ((same_new n1).trans (same_new nr)) ((same_new n1).free nr) upd_same (.cons ⟨t1, [], rfl, TS.of (K := K) (same_new nr) _ _ (SqT.of upd_same), .nil⟩ .nil)
  | pat p =>
    cases p with
    | row p1 p2 =>
      obtain ⟨a, x, y, rfl, ht, u1, u2⟩ := hv
      refine ⟨_, rfl, a, _, _, rfl, ht, .inl ⟨rfl, rfl, x, y, rfl, ?_⟩⟩
      refine ⟨_, rfl, _, rfl, sz (by show 2 ≤ 10000; decide), fun t1 n1 => ⟨sz (by show 1 ≤ 10000; decide), fun r nr => ?_⟩⟩
      have s2 := (same_new (o := .tup [x, y]) n1).trans (same_new (o := .lst [.ref t1]) nr)
      exact q r _ _ s2 ((same_new n1).free nr) upd_same (.cons ⟨t1, _, rfl, TS.of (K := K) (same_new nr) _ _ (SqT.of upd_same), .cons (u1.mono (TS.of s2)) (.cons (u2.mono (TS.of s2)) .nil)⟩ .nil)
    | or p1 p2 =>
      obtain ⟨a, x, y, rfl, ht, u1, u2⟩ := hv
      refine ⟨_, rfl, a, _, _, rfl, ht, .inr ⟨.inl (by decide +kernel), a, _, _, rfl, ht, .inl ⟨rfl, rfl, x, y, rfl, ?_⟩⟩⟩
      refine ⟨_, rfl, sz (by show 1 ≤ 10000; decide), fun t1 n1 => ⟨_, rfl, sz (by show 1 ≤ 10000; decide), fun t2 n2 => ⟨sz (by show 2 ≤ 10000; decide), fun r nr => ?_⟩⟩⟩
      have s2 := (same_new (o := .tup [y]) n2).trans (same_new (o := .lst [.ref t1, .ref t2]) nr)
      have s3 := (same_new (o := .tup [x]) n1).trans s2
      exact q r _ _ s3 (((same_new n1).trans (same_new n2)).free nr) upd_same (.cons ⟨t1, _, rfl, TS.of (K := K) s2 _ _ (SqT.of upd_same), .cons (u1.mono (TS.of s3)) .nil⟩ (.cons ⟨t2, _, rfl, TS.of (K := K) (same_new nr) _ _ (SqT.of upd_same), .cons (u2.mono (TS.of s3)) .nil⟩ .nil))
    | more p1 =>
      have hv' : PAt K H (.more p1) v := hv
      obtain ⟨a, x, rfl, ht, u1⟩ := hv
      refine ⟨_, rfl, a, _, _, rfl, ht, .inr ⟨.inl (by decide +kernel), a, _, _, rfl, ht, .inr ⟨.inl (by decide +kernel), a, _, _, rfl, ht, .inl ⟨rfl, rfl, x, rfl, ?_⟩⟩⟩⟩
      refine ⟨_, rfl, _, rfl, sz (by show 2 ≤ 10000; decide), fun t1 n1 => ⟨Nat.zero_le _, fun t2 n2 => ⟨sz (by show 2 ≤ 10000; decide), fun r nr => ?_⟩⟩⟩
      have s2 := (same_new (o := .tup []) n2).trans (same_new (o := .lst [.ref t1, .ref t2]) nr)
      have s3 := (same_new (o := .tup [x, .ref a]) n1).trans s2
      exact q r _ _ s3 (((same_new n1).trans (same_new n2)).free nr) upd_same (.cons ⟨t1, _, rfl, TS.of (K := K) s2 _ _ (SqT.of upd_same), .cons (u1.mono (TS.of s3)) (.cons (hv'.mono (TS.of s3)) .nil)⟩ (.cons ⟨t2, _, rfl, TS.of (K := K) (same_new nr) _ _ (SqT.of upd_same), .nil⟩ .nil))
    | less p1 =>
      have hv' : PAt K H (.less p1) v := hv
      obtain ⟨a, x, rfl, ht, u1⟩ := hv
      refine ⟨_, rfl, a, _, _, rfl, ht, .inr ⟨.inl (by decide +kernel), a, _, _, rfl, ht, .inr ⟨.inl (by decide +kernel), a, _, _, rfl, ht, .inr ⟨.inl (by decide +kernel), a, _, _, rfl, ht, .inl ⟨rfl, rfl, x, rfl, ?_⟩⟩⟩⟩⟩
      refine ⟨Nat.zero_le _, fun t1 n1 => ⟨_, rfl, _, rfl, sz (by show 2 ≤ 10000; decide), fun t2 n2 => ⟨sz (by show 2 ≤ 10000; decide), fun r nr => ?_⟩⟩⟩
      have s2 := (same_new (o := .tup [x, .ref a]) n2).trans (same_new (o := .lst [.ref t1, .ref t2]) nr)
      have s3 := (same_new (o := .tup []) n1).trans s2
      exact q r _ _ s3 (((same_new n1).trans (same_new n2)).free nr) upd_same (.cons ⟨t1, _, rfl, TS.of (K := K) s2 _ _ (SqT.of upd_same), .nil⟩ (.cons ⟨t2, _, rfl, TS.of (K := K) (same_new nr) _ _ (SqT.of upd_same), .cons (u1.mono (TS.of s3)) (.cons (hv'.mono (TS.of s3)) .nil)⟩ .nil))
    | group n p1 =>
      obtain ⟨a, x, rfl, hn, ht, u1⟩ := hv
      refine ⟨_, rfl, a, _, _, rfl, ht, .inr ⟨.inl (by decide +kernel), a, _, _, rfl, ht, .inr ⟨.inl (by decide +kernel), a, _, _, rfl, ht, .inr ⟨.inl (by decide +kernel), a, _, _, rfl, ht, .inr ⟨.inl (by decide +kernel), a, _, _, rfl, ht, .inl ⟨rfl, rfl, .int n, x, rfl, ?_⟩⟩⟩⟩⟩⟩
      refine ⟨_, rfl, _, rfl, sz (by show 2 ≤ 10000; decide), fun t1 n1 => ⟨sz (by show 2 ≤ 10000; decide), fun t2 n2 => ⟨sz (by show 1 ≤ 10000; decide), fun r nr => ?_⟩⟩⟩
      have s2 := (same_new (o := .tup [x, .ref t1]) n2).trans (same_new (o := .lst [.ref t2]) nr)
      have s3 := (same_new (o := .tup [.str "close", .int n]) n1).trans s2
      exact q r _ _ s3 (((same_new n1).trans (same_new n2)).free nr) upd_same (.cons ⟨t2, _, rfl, TS.of (K := K) (same_new nr) _ _ (SqT.of upd_same), .cons (u1.mono (TS.of s3)) (.cons ⟨t1, rfl, TS.of (K := K) s2 _ _ (SqT.of upd_same)⟩ .nil)⟩ .nil)
    | sign c =>
      obtain ⟨a, ws, rfl, ht, _⟩ := PAt.node hv
      refine ⟨_, rfl, a, _, _, rfl, ht, .inr ⟨.inl (show ("sign" : Str) ≠ "row" by decide +kernel), a, _, _, rfl, ht, .inr ⟨.inl (show ("sign" : Str) ≠ "or" by decide +kernel), a, _, _, rfl, ht, .inr ⟨.inl (show ("sign" : Str) ≠ "more" by decide +kernel), a, _, _, rfl, ht, .inr ⟨.inl (show ("sign" : Str) ≠ "less" by decide +kernel), a, _, _, rfl, ht, .inr ⟨.inl (show ("sign" : Str) ≠ "group" by decide +kernel), ?_⟩⟩⟩⟩⟩⟩
      refine ⟨Nat.zero_le _, fun t1 n1 => ⟨sz (by show 1 ≤ 10000; decide), fun r nr => ?_⟩⟩
      exact q r _ _ ((same_new n1).trans (same_new nr)) ((same_new n1).free nr) upd_same (.cons ⟨t1, [], rfl, TS.of (K := K) (same_new nr) _ _ (SqT.of upd_same), .nil⟩ .nil)
    | _ =>
      obtain ⟨a, ws, rfl, ht, _⟩ := PAt.node hv
      refine ⟨_, rfl, a, _, _, rfl, ht, .inr ⟨.inl (by decide +kernel), a, _, _, rfl, ht, .inr ⟨.inl (by decide +kernel), a, _, _, rfl, ht, .inr ⟨.inl (by decide +kernel), a, _, _, rfl, ht, .inr ⟨.inl (by decide +kernel), a, _, _, rfl, ht, .inr ⟨.inl (by decide +kernel), ?_⟩⟩⟩⟩⟩⟩
      refine ⟨Nat.zero_le _, fun t1 n1 => ⟨sz (by show 1 ≤ 10000; decide), fun r nr => ?_⟩⟩
      exact q r _ _ ((same_new n1).trans (same_new nr)) ((same_new n1).free nr) upd_same (.cons ⟨t1, [], rfl, TS.of (K := K) (same_new nr) _ _ (SqT.of upd_same), .nil⟩ .nil)

end
end G1

set_option maxRecDepth 100000
set_option maxHeartbeats 4000000
namespace G1
open PySem PySem.Spec PyProof.Rows L2 Gm
section
variable {P : Program} {w : World} {K : PySem.W.Frag} {mg : Str → Option Value} {base : Heap}
def sp_onward (K : PySem.W.Frag) : Sp := fun vs H Q _ => ∃ (x : Sta) (v : V) (z : Str), vs = [v, .str z] ∧ SAt K H x v ∧ x.1.length ≤ 1000 ∧ x.2 ≤ z.length ∧ z.length ≤ 1000 ∧
  ∀ (r : Addr) (ws : List V) (H' : Hp), Same H H' → H r = none → H' r = some (.lst ws) → SAts K H' (step z.cps.toList x) ws → Q (.ref r) H'
theorem str_len (z : Str) : z.cps.toList.length = z.length := by simp [Str.length]
theorem step_unf {z : List Nat} {t : Th} {r : List Th} {k : Nat} (h1 : ∀ c, t ≠ .pat (.sign c)) (h2 : t ≠ .pat .any) : step z (t :: r, k) = (unf t).map fun a => (a ++ r, k) := by
  cases t with
  | close n => rfl
  | pat p =>
    cases p with
    | sign c => exact absurd rfl (h1 c)
    | any => exact absurd rfl h2
    | _ => rfl
theorem take_map {α β : Type} {L : List α} {f : α → β} {i : Nat} {x : α} (h : L[i]? = some x) : (L.take (i + 1)).map f = (L.take i).map f ++ [f x] := by
  obtain ⟨h1, h2⟩ := List.getElem?_eq_some_iff.mp h
  rw [← List.take_append_getElem h1, h2, List.map_append]
  rfl
theorem ok_onward (T : Txt w K mg) : FnOk P w K mg base CX0 2 T.f_onward T.fd_onward ["state", "text"] (sp_onward K) := by
  refine T.F_onward.ok sc_onward (fun vs H Q E h => ?_) (fun cdv A outer s H vs Q E hr h => ?_)
  · obtain ⟨x, v, z, rfl, _⟩ := h
    rfl
  obtain ⟨⟨rs, k⟩, v, z, rfl, ⟨a, y, rfl, hs, ⟨b, ts, rfl, hb, pts⟩⟩, hl, hk, hz, q⟩ := h
  refine ⟨_, (pss_cons (ps_asg (pv 0) (pg_tup rfl (pgs_cons (pg_name (i := 2) sc_onward.nd rfl (.inl rfl)) (pgs_cons (pg_name (i := 3) sc_onward.nd rfl (.inr rfl)) pgs_nil))))
  (pss_cons (ps_if (pt_not (pt_truth (pv 2) (by intro _; rfl)))
    (pss_one (ps_ret (pe_lst pa_nil)))
    pss_nil)
  (pss_cons (ps_asg (pe_tup (pa_cons (pe_ix ix_tup (pv 2) pe_int (fun _ _ => rfl)) (pa_cons (pe_slice sl_tupA (pv 2) (po_some pe_int) po_none) pa_nil))) (pg_tup rfl (pgs_cons (pg_name (i := 4) sc_onward.nd rfl (.inl rfl)) (pgs_cons (pg_name (i := 5) sc_onward.nd rfl (.inr rfl)) pgs_nil))))
  (pss_cons (ps_if (pt_cmpR op_in_seq (pe_ix ix_tup (pv 4) pe_int (fun _ _ => rfl)) (pe_tup (pa_cons pe_str (pa_cons pe_str pa_nil))) (by rfl))
    (pss_one (ps_ret (pe_ifExp (pt_val (pe_call (ok__takes T) (hr.mono (by decide)) (by rfl) T.m__takes T.F__takes.kp T.b__takes .nil pass0 (pa_cons (pv 4) (pa_cons (pe_slice sl_str (pv 1) (po_some (pv 3)) (po_some (pe_op op_add (pv 3) pe_int))) pa_nil)))) (pe_lst (pa_cons (pe_tup (pa_cons (pv 5) (pa_cons (pe_op op_add (pv 3) pe_int) pa_nil))) pa_nil)) (pe_lst pa_nil))))
    pss_nil)
  (pss_one (ps_ret (pe_lc (own := [("ahead", 6)]) (g := gName 6) (te := tTup (tCons (tOp (rCatA K) (tVar 6) (tVar 5)) (tCons (tVar 3) tNil))) rfl sc_onward.nd (pi_list (pe_call (ok__unfolded T) (hr.mono (by decide)) (by rfl) T.m__unfolded T.F__unfolded.kp T.b__unfolded .nil pass0 (pa_cons (pv 4) pa_nil))) (blkOk_by (own := [("ahead", 6)]) (N := N_onward) (sc := defScope s_onward) (by decide +kernel)) (fun _ _ _ _ _ => by exact (pg_name (i := 6) sc_onward.nd rfl (.inl rfl))) (fun _ _ _ _ _ => by exact pts_nil) (fun _ _ _ _ _ => by exact (pe_tup (pa_cons (pe_op op_catA (pv 6) (pv 5)) (pa_cons (pv 3) pa_nil))))))))))), ?_⟩
  refine ⟨_, rfl, a, _, rfl, hs, rfl, _, _, rfl, _, _, rfl, rfl, ?_⟩
  cases pts with
  | nil =>
    refine ⟨_, rfl, false, .inr (.inl ⟨_, hb, rfl⟩), iteT ?_⟩
    exact ⟨Nat.zero_le _, fun r nr => q r _ _ (same_new nr) nr upd_same .nil⟩
  | @cons t tv R vR ht pR =>
    refine ⟨_, rfl, true, .inr (.inl ⟨_, hb, rfl⟩), iteF ?_⟩
    refine ⟨_, rfl, _, _, _, _, rfl, rfl, hb, at0 rfl, _, rfl, _, rfl, b, _, rfl, hb, fun h => absurd h (not_whole _ _), fun _ bb nbb => ?_⟩
    rw [cut_tail]
    refine ⟨sz (by show 2 ≤ 10000; decide), fun tp ntp => ⟨tp, _, rfl, SqT.of upd_same, rfl, _, _, rfl, _, _, rfl, rfl, ?_⟩⟩
    have s2 := (same_new (o := .tup vR) nbb).trans (same_new (o := .tup [tv, .ref bb]) ntp)
    have hbb : SqT K (upd (upd H bb (.tup vR)) tp (.tup [tv, .ref bb])) bb vR := TS.of (K := K) (same_new ntp) _ _ (SqT.of upd_same)
    obtain ⟨c, ws, rfl, hc⟩ := TAt.node ht
    have hc2 := TS.of (K := K) s2 _ _ hc
    have ht2 := ht.mono (TS.of (K := K) s2)
    have pR2 := TAts.mono (TS.of (K := K) s2) pR
    refine ⟨_, rfl, _, _, _, _, rfl, rfl, hc2, at0 rfl, sz (by show 2 ≤ 10000; decide), fun t1 n1 => ⟨_, _, rfl, .inr (SqT.of upd_same), rfl, rfl, _, rfl, ?_⟩⟩
    have s3 := s2.trans (same_new (o := .tup [.str "sign", .str "any"]) n1)
    have s23 := same_new (o := .tup [.str "sign", .str "any"]) n1
    have lR : R.length = vR.length := Paired.length pR
    rw [List.length_cons] at hl
    have gone : (∃ p, t = .pat p ∧ (p = .any ∨ ∃ c, p = .sign c)) ∨ ((∀ c, t ≠ .pat (.sign c)) ∧ t ≠ .pat .any ∧ ¬ (tnm t = "sign" ∨ tnm t = "any")) := by
      cases t with
      | close n => exact .inr ⟨fun c e => (nomatch e), fun e => (nomatch e), show ¬ (("close" : Str) = "sign" ∨ ("close" : Str) = "any") by decide +kernel⟩
      | pat p =>
        cases p with
        | sign c => exact .inl ⟨_, rfl, .inr ⟨c, rfl⟩⟩
        | any => exact .inl ⟨_, rfl, .inl rfl⟩
        | none => exact .inr ⟨fun c e => (nomatch e), fun e => (nomatch e), show ¬ (("none" : Str) = "sign" ∨ ("none" : Str) = "any") by decide +kernel⟩
        | row p q => exact .inr ⟨fun c e => (nomatch e), fun e => (nomatch e), show ¬ (("row" : Str) = "sign" ∨ ("row" : Str) = "any") by decide +kernel⟩
        | or p q => exact .inr ⟨fun c e => (nomatch e), fun e => (nomatch e), show ¬ (("or" : Str) = "sign" ∨ ("or" : Str) = "any") by decide +kernel⟩
        | more p => exact .inr ⟨fun c e => (nomatch e), fun e => (nomatch e), show ¬ (("more" : Str) = "sign" ∨ ("more" : Str) = "any") by decide +kernel⟩
        | less p => exact .inr ⟨fun c e => (nomatch e), fun e => (nomatch e), show ¬ (("less" : Str) = "sign" ∨ ("less" : Str) = "any") by decide +kernel⟩
        | group n p => exact .inr ⟨fun c e => (nomatch e), fun e => (nomatch e), show ¬ (("group" : Str) = "sign" ∨ ("group" : Str) = "any") by decide +kernel⟩
    rw [inV2]
    rcases gone with ⟨p, rfl, hp⟩ | ⟨g1, g2, g3⟩
    · have ey : tnm (.pat p) = "sign" ∨ tnm (.pat p) = "any" := by
        rcases hp with rfl | ⟨c, rfl⟩
        · exact .inr rfl
        · exact .inl rfl
      refine ite2 (fun _ => ?_) (fun e => absurd (decide_eq_true ey) e)
      refine ⟨_, rfl, _, rfl, _, rfl, _, rfl, _, rfl, _, _, rfl, rfl, _, rfl, z, rfl, sz (by omega), ?_⟩
      rw [cut_one]
      refine ⟨p, _, _, rfl, (ht.mono (TS.of s3)), hp, _, rfl, ?_⟩
      have sp : (takes p ⟨((z.cps.toList[k]?).toList).toArray⟩ = true ∧ step z.cps.toList (.pat p :: R, k) = [(R, k + 1)]) ∨ (takes p ⟨((z.cps.toList[k]?).toList).toArray⟩ = false ∧ step z.cps.toList (.pat p :: R, k) = []) := by
        rcases hp with rfl | ⟨c0, rfl⟩
        · show ((!decide (V.str _ = V.str "")) = true ∧ (if k < z.cps.toList.length then [(R, k + 1)] else []) = [(R, k + 1)]) ∨ ((!decide (V.str _ = V.str "")) = false ∧ (if k < z.cps.toList.length then [(R, k + 1)] else [] : List Sta) = [])
          by_cases h : k < z.cps.toList.length
          · left
            rw [if_pos h, List.getElem?_eq_getElem h]
            refine ⟨?_, rfl⟩
            rw [decide_eq_false]
            · rfl
            · intro e
              have e' := congrArg (fun s : Str => s.cps.size) (V.str.inj e)
              exact absurd e' (by show ¬ (1 = 0); decide)
          · right
            rw [if_neg h, List.getElem?_eq_none (by omega)]
            exact ⟨rfl, rfl⟩
        · show (decide (V.str _ = V.str ⟨#[c0]⟩) = true ∧ (if z.cps.toList[k]? = some c0 then [(R, k + 1)] else []) = [(R, k + 1)]) ∨ (decide (V.str _ = V.str ⟨#[c0]⟩) = false ∧ (if z.cps.toList[k]? = some c0 then [(R, k + 1)] else [] : List Sta) = [])
          by_cases h : z.cps.toList[k]? = some c0
          · left
            rw [if_pos h, h]
            exact ⟨decide_eq_true rfl, rfl⟩
          · right
            rw [if_neg h]
            refine ⟨decide_eq_false fun e => h ?_, rfl⟩
            have e' := congrArg (fun s : Str => s.cps.toList) (V.str.inj e)
            cases ez : z.cps.toList[k]? with
            | none =>
              rw [ez] at e'
              exact absurd e' (by simp)
            | some d =>
              rw [ez] at e'
              simp at e'
              rw [e']
      rcases sp with ⟨e1, e2⟩ | ⟨e1, e2⟩
      · rw [e1]
        refine iteT ?_
        refine ⟨_, rfl, _, rfl, _, _, rfl, rfl, sz (by show 2 ≤ 10000; decide), fun t2 n2 => ⟨sz (by show 1 ≤ 10000; decide), fun r nr => ?_⟩⟩
        have s5 := s23.trans ((same_new (o := .tup [.ref bb, .int ((k : Int) + 1)]) n2).trans (same_new (o := .lst [.ref t2]) nr))
        refine q r _ _ (s2.trans s5) (s3.free ((same_new n2).free nr)) upd_same ?_
        rw [e2]
        refine .cons ⟨t2, .ref bb, rfl, ?_, bb, vR, rfl, TS.of (K := K) s5 _ _ hbb, TAts.mono (TS.of (K := K) s5) pR2⟩ .nil
        exact TS.of (K := K) (same_new nr) _ _ (SqT.of upd_same)
      · rw [e1]
        refine iteF ?_
        refine ⟨Nat.zero_le _, fun r nr => ?_⟩
        refine q r _ _ (s3.trans (same_new nr)) (s3.free nr) upd_same ?_
        rw [e2]
        exact .nil
    · refine ite2 (fun e => absurd (of_decide_eq_true e) g3) (fun _ => ?_)
      refine ⟨_, rfl, t, _, rfl, ht.mono (TS.of s3), fun lu us H4 s4 nu hu pu => ⟨lu, rfl, ⟨_, SqL.of hu⟩, fun D nD => ?_⟩⟩
      have s34 := s23.trans s4
      refine lc_list (K := K) (a := lu) (xs := us) (fun i H' => Same H4 H' ∧ ∃ acc, H' D = some (.lst acc) ∧ SAts K H' (((unf t).take i).map fun a => ((a ++ R, k) : Sta)) acc ∧ acc.length ≤ i) ⟨same_new nD, [], upd_same, .nil, Nat.le_refl _⟩ (fun j H' _ hI => SqL.of (hI.1 _ _ hu)) ?_ ?_
      · rintro i v' H5 hi ⟨s5, acc, hD, pa, la⟩
        obtain ⟨l, hl', ⟨bl, vl, rfl, hbl, pl⟩⟩ := Paired.at pu hi
        have lu2 : (unf t).length = us.length := Paired.length pu
        have li : i < us.length := (List.getElem?_eq_some_iff.mp hi).1
        have hul : (unf t).length ≤ 2 := by
          cases t with
          | close n => exact Nat.le_succ _
          | pat p => cases p <;> simp [unf]
        have ll : l.length ≤ 2 := (unf_gd (Nat.le_refl _) l (List.mem_of_getElem? hl')).2
        have lvl : l.length = vl.length := Paired.length pl
        refine ⟨rfl, yes_if ?_⟩
        refine ⟨_, rfl, _, rfl, ?_⟩
        have sA := s34.trans s5
        refine r_catA (TS.of (K := K) s5 _ _ hbl) (TS.of (K := K) sA _ _ hbb) (sz (by omega)) (fun cc H6 s6 hcc => ?_)
        refine ⟨_, rfl, sz (by show 2 ≤ 10000; decide), fun t2 n2 => ?_⟩
        have s56 := s6.trans (same_new (o := .tup [.ref cc, .int (k : Int)]) n2)
        refine ⟨acc, s56 _ _ hD, szl (by omega), ?_⟩
        have hD7 := s56 _ _ hD
        have nDt2 : H4 D = none := nD
        refine ⟨Same.mut (s5.trans s56) nD, acc ++ [.ref t2], upd_same, ?_, by rw [List.length_append, List.length_singleton]; omega⟩
        rw [take_map hl']
        have t67 : TS K H6 _ := (TS.new (K := K) (o := .tup [.ref cc, .int (k : Int)]) n2).trans (TS.lst (K := K) (ys := acc ++ [.ref t2]) hD7)
        refine Paired.snoc (SAts.mono ((TS.of s56).trans (TS.lst hD7)) pa) ⟨t2, .ref cc, rfl, TS.lst hD7 _ _ (SqT.of upd_same), cc, _, rfl, t67 _ _ hcc, ?_⟩
        exact Paired.app (TAts.mono ((TS.of (s5.trans s6)).trans t67) pl) (TAts.mono ((TS.of (sA.trans s6)).trans t67) pR2)
      · rintro H5 ⟨s5, acc, hD, pa, la⟩
        have lu2 : (unf t).length = us.length := Paired.length pu
        rw [← lu2, List.take_length] at pa
        refine q D acc H5 (s2.trans (s34.trans s5)) ((s2.trans s34).free nD) hD ?_
        rw [step_unf g1 g2]
        exact pa

end
end G1

set_option maxRecDepth 100000
set_option maxHeartbeats 4000000
namespace G1
open PySem PySem.Spec PyProof.Rows L2 Gm
section
variable {P : Program} {w : World} {K : PySem.W.Frag} {mg : Str → Option Value} {base : Heap}
theorem nodup_len {α : Type} : ∀ (l m : List α), l.Nodup → (∀ x ∈ l, x ∈ m) → l.length ≤ m.length
  | [], _, _, _ => Nat.zero_le _
  | a :: l, m, hn, hs => by
    classical
    have h1 := List.nodup_cons.mp hn
    have ha : a ∈ m := hs a List.mem_cons_self
    have h2 := nodup_len l (m.erase a) h1.2 fun x hx => (List.mem_erase_of_ne (fun e => h1.1 (by rw [← e]; exact hx))).mpr (hs x (List.mem_cons_of_mem _ hx))
    rw [List.length_erase_of_mem ha] at h2
    have h3 : 0 < m.length := List.length_pos_of_mem ha
    rw [List.length_cons]
    omega
def nat2 (ns : List Nat) : List V := ns.map fun (n : Nat) => V.int (n : Int)
theorem atI_last {α : Type} (xs : List α) (y : α) : atI (xs ++ [y]) (-(1 : Int)) = some y := by
  unfold atI ixN
  rw [if_neg (by decide), List.length_append, List.length_singleton]
  rw [if_pos (by omega)]
  have e : (-(1 : Int) + ((xs.length + 1 : Nat) : Int)).toNat = xs.length := by omega
  show (xs ++ [y])[(-(1 : Int) + ((xs.length + 1 : Nat) : Int)).toNat]? = some y
  rw [e, List.getElem?_append_right (Nat.le_refl _), Nat.sub_self]
  rfl
/-- all states of a pattern and a text -/
def alls (p : Pat) (n : Nat) : List Sta := (allr p).flatMap fun r => (List.range (n + 1)).map fun k => (r, k)
theorem alls_len (p : Pat) (n : Nat) : (alls p n).length ≤ (2 * siz p + 1) * (n + 1) := by
  unfold alls
  have e : ((allr p).flatMap fun r => (List.range (n + 1)).map fun k => ((r, k) : Sta)).length = (allr p).length * (n + 1) := by
    generalize allr p = L
    induction L with
    | nil => simp
    | cons x L ih => rw [List.flatMap_cons, List.length_append, ih, List.length_map, List.length_range, List.length_cons, Nat.succ_mul]; omega
  rw [e]
  exact Nat.mul_le_mul_right _ (allr_len p)
theorem alls_mem {p : Pat} {z : List Nat} {s : Sta} (h : SOk p z s) : s ∈ alls p z.length := by
  unfold alls
  rw [List.mem_flatMap]
  exact ⟨s.1, h.1, List.mem_map.mpr ⟨s.2, List.mem_range.mpr (by have := h.2; omega), rfl⟩⟩
theorem states_few {p : Pat} {z : List Nat} {L : List Sta} (hn : L.Nodup) (h : ∀ s ∈ L, SOk p z s) (h1 : siz p ≤ 1000) (h2 : z.length ≤ 1000) : L.length < 3000000 := by
  have q1 := nodup_len L (alls p z.length) hn fun s hs => alls_mem (h s hs)
  have q2 := alls_len p z.length
  have q3 : (2 * siz p + 1) * (z.length + 1) ≤ 2001 * 1001 := Nat.mul_le_mul (by omega) (by omega)
  omega
/-- along a way it falls -/
def nu (p : Pat) (z : List Nat) (s : Sta) : Nat := (z.length - s.2) * (1 + ((allr p).map wr).sum) + wr s.1
theorem le_sum {L : List (List Th)} {r : List Th} (h : r ∈ L) : wr r ≤ (L.map wr).sum := by
  induction L with
  | nil => cases h
  | cons x L ih =>
    rw [List.map_cons, List.sum_cons]
    rcases List.mem_cons.mp h with rfl | h
    · omega
    · have := ih h
      omega
theorem nu_dec {p : Pat} {z : List Nat} {s : Sta} (hn : nr p = true) (h : SOk p z s) : ∀ s' ∈ step z s, nu p z s' < nu p z s := by
  intro s' hs
  have h2 := (h.step hn s' hs).1
  have h3 := le_sum h2
  unfold nu
  rcases step_dec (allr_ok hn _ h.1).nr s' hs with ⟨e, e2⟩ | ⟨e, e2⟩
  · rw [e]
    have e3 : z.length - s.2 = (z.length - (s.2 + 1)) + 1 := by omega
    rw [e3, Nat.succ_mul]
    omega
  · rw [e]
    omega
/-- no tuple -/
def NT (o : HO) : Prop := (∀ xs, o ≠ .tup xs) ∧ ∀ p xs, o ≠ .frz p (.tup xs)
theorem ts_but {H H' : Hp} {y : Addr} {o : HO} (h : H y = some o) (n : NT o) (b : But y H H') : TS K H H' := fun a zs q => by
  have ne : ∀ {u : HO}, H a = some u → u ≠ o → a ≠ y := fun e d z => by
    rw [z, h] at e
    exact d (Option.some.inj e).symm
  rcases q with (q | ⟨u, q⟩) | q
  · exact .inl (.inl (b _ _ (ne q (fun z => n.1 _ z.symm)) q))
  · exact .inl (.inr ⟨u, b _ _ (ne q (fun z => n.2 _ _ z.symm)) q⟩)
  · exact .inr q

end
end G1

set_option maxRecDepth 100000
set_option maxHeartbeats 4000000
namespace G1
open PySem PySem.Spec PyProof.Rows L2 Gm
section
variable {P : Program} {w : World} {K : PySem.W.Frag} {mg : Str → Option Value} {base : Heap}
/-! ### how long a way may be -/
theorem walk_few {p : Pat} {z : List Nat} (hn : nr p = true) {s e : Sta} {w : List Nat} (h : Walk z s w e) (hs : SOk p z s) : ∃ L : List Sta, w.length ≤ L.length ∧ L.Nodup ∧ ∀ x ∈ L, SOk p z x ∧ nu p z x ≤ nu p z s := by
  have grow : ∀ {s a : Sta} {n : Nat} {L : List Sta}, SOk p z s → a ∈ step z s → n ≤ L.length → L.Nodup → (∀ x ∈ L, SOk p z x ∧ nu p z x ≤ nu p z a) → ∃ L' : List Sta, n + 1 ≤ L'.length ∧ L'.Nodup ∧ ∀ x ∈ L', SOk p z x ∧ nu p z x ≤ nu p z s := fun {s a n L} h hm h1 h2 h3 => by
    have hd := nu_dec hn h a hm
    refine ⟨s :: L, by rw [List.length_cons]; omega, List.nodup_cons.mpr ⟨fun hx => by have := (h3 s hx).2; omega, h2⟩, fun x hx => ?_⟩
    rcases List.mem_cons.mp hx with rfl | hx
    · exact ⟨h, Nat.le_refl _⟩
    · have := h3 x hx
      exact ⟨this.1, by omega⟩
  induction h with
  | nil => exact ⟨[], Nat.le_refl _, List.nodup_nil, fun x hx => by cases hx⟩
  | one h _ ih =>
    obtain ⟨L, h1, h2, h3⟩ := ih (hs.step hn _ (by rw [h]; simp))
    obtain ⟨L', g1, g2, g3⟩ := grow hs (by rw [h]; simp) h1 h2 h3
    exact ⟨L', by omega, g2, g3⟩
  | left h _ ih =>
    obtain ⟨L, h1, h2, h3⟩ := ih (hs.step hn _ (by rw [h]; simp))
    exact grow hs (by rw [h]; simp) h1 h2 h3
  | right h _ ih =>
    obtain ⟨L, h1, h2, h3⟩ := ih (hs.step hn _ (by rw [h]; simp))
    exact grow hs (by rw [h]; simp) h1 h2 h3
theorem tb_len {p : Pat} {y ws : List Nat} (h : TakesBy p y ws) (hn : nr p = true) (h1 : siz p ≤ 1000) (h2 : y.length ≤ 1000) : ws.length < 3000000 := by
  obtain ⟨L, g1, g2, g3⟩ := walk_few hn h.walk (SOk.first p y)
  have := states_few g2 (fun s hs => (g3 s hs).1) h1 h2
  omega
theorem tb_mores {p : Pat} : ∀ {L : List (List Nat × List Nat)}, (∀ q ∈ L, TakesBy p q.1 q.2) → TakesBy (.more p) (L.flatMap fun q => q.1) ((L.flatMap fun q => 0 :: q.2) ++ [1])
  | [], _ => tb_more0 p
  | q :: L, h => by
    have := tb_more (h q List.mem_cons_self) (tb_mores (L := L) fun x hx => h x (List.mem_cons_of_mem _ hx))
    simp only [List.flatMap_cons, List.cons_append, List.append_assoc]
    exact this
theorem tb_lesss {p : Pat} : ∀ {L : List (List Nat × List Nat)}, (∀ q ∈ L, TakesBy p q.1 q.2) → TakesBy (.less p) (L.flatMap fun q => q.1) ((L.flatMap fun q => 1 :: q.2) ++ [0])
  | [], _ => tb_less0 p
  | q :: L, h => by
    have := tb_less (h q List.mem_cons_self) (tb_lesss (L := L) fun x hx => h x (List.mem_cons_of_mem _ hx))
    simp only [List.flatMap_cons, List.cons_append, List.append_assoc]
    exact this
def Kept (D : Addr → Prop) (H H' : Hp) : Prop := ∀ a o, D a → H a = some o → H' a = some o
theorem Kept.of {D : Addr → Prop} {H H' : Hp} (s : Same H H') : Kept D H H' := fun a o _ h => s a o h
theorem Kept.upd {D : Addr → Prop} {H : Hp} {l : Addr} {o : HO} (n : ∀ a, D a → a ≠ l) : Kept D H (upd H l o) := fun a u d h => by rw [upd_ne (n a d)]; exact h
theorem nat2_len (w : List Nat) : (nat2 w).length = w.length := by
  unfold nat2
  simp
theorem nat2_cons (d : Nat) (w : List Nat) : V.int (d : Int) :: nat2 w = nat2 (d :: w) := rfl
theorem at3 {α : Type} {xs : List α} {v : α} (h : xs[3]? = some v) : atI xs 3 = some v := atI_nat (j := 3) h
theorem flat_le {M : Nat} : ∀ {L : List (List Nat × List Nat)}, (∀ q ∈ L, q.1.length ≤ M) → (L.flatMap fun q => q.1).length ≤ L.length * M
  | [], _ => by simp
  | q :: L, h => by
    have h1 := h q List.mem_cons_self
    have h2 := flat_le (L := L) fun x hx => h x (List.mem_cons_of_mem _ hx)
    rw [List.flatMap_cons, List.length_append, List.length_cons, Nat.succ_mul]
    omega
/-- some rounds, by turn d -/
theorem tb_rounds {p : Pat} {d : Nat} (hd : d ≤ 1) : ∃ p3 : Pat, siz p3 = 1 + siz p ∧ dep p3 = 1 + dep p ∧ nums (subs p3) = nums (subs p) ∧ nul p3 = true ∧ (nul p = false → nr p = true → nr p3 = true) ∧
    (∀ {K : PySem.W.Frag} {H3 : Hp} {t : Addr} {x : V} {z : Str}, atI [V.str "more", V.str "less"] (d : Int) = some (.str z) → SqT K H3 t [.str z, x] → PAt K H3 p x → PAt K H3 p3 (.ref t)) ∧
    (∀ L : List (List Nat × List Nat), (∀ q ∈ L, TakesBy p q.1 q.2) → TakesBy p3 (L.flatMap fun q => q.1) ((L.flatMap fun q => d :: q.2) ++ [1 - d])) := by
  match d, hd with
  | 0, _ =>
    refine ⟨.more p, siz_more _, rfl, rfl, rfl, fun h1 h2 => by show (!nul p && nr p) = true; rw [h1, h2]; rfl, fun hz h u => ?_, fun L hL => tb_mores hL⟩
    have e : atI [V.str "more", V.str "less"] ((0 : Nat) : Int) = some (.str "more") := at0 rfl
    rw [e] at hz
    cases hz
    exact ⟨_, _, rfl, h, u⟩
  | 1, _ =>
    refine ⟨.less p, siz_less _, rfl, rfl, rfl, fun h1 h2 => by show (!nul p && nr p) = true; rw [h1, h2]; rfl, fun hz h u => ?_, fun L hL => tb_lesss hL⟩
    have e : atI [V.str "more", V.str "less"] ((1 : Nat) : Int) = some (.str "less") := at1 rfl
    rw [e] at hz
    cases hz
    exact ⟨_, _, rfl, h, u⟩
/-- one on the pile: the pattern, whether it may take nothing, a text that it takes, and the way; D: what holds of the place of the list -/
def E6 (K : PySem.W.Frag) (H : Hp) (D : Addr → Prop) (m : Pat × Str) (v : V) : Prop := ∃ t x a ws, v = .ref t ∧ SqT K H t [x, .bl (nul m.1), .str m.2, .ref a] ∧ PAt K H m.1 x ∧ H a = some (.lst (nat2 ws)) ∧ D a ∧ nr m.1 = true ∧ TakesBy m.1 m.2.cps.toList ws
theorem E6.mono {D D' : Addr → Prop} {H H' : Hp} (b : Kept D H H') (e : TS K H H') (d : ∀ a, D a → D' a) {m : Pat × Str} {v : V} : E6 K H D m v → E6 K H' D' m v
  | ⟨t, x, a, ws, h, q, u, hl, dl, n, k⟩ => ⟨t, x, a, ws, h, e _ _ q, u.mono e, b _ _ dl hl, d _ dl, n, k⟩
theorem E6.mk {H : Hp} {D : Addr → Prop} {p : Pat} {y : Str} {t a : Addr} {x : V} {b : Bool} {ws : List Nat} (n : H t = none) (u : PAt K H p x) (e : nul p = b) (ha : H a = some (.lst (nat2 ws))) (da : D a) (hn : nr p = true) (hk : TakesBy p y.cps.toList ws) :
    E6 K (upd H t (.tup [x, .bl b, .str y, .ref a])) D (p, y) (.ref t) := by
  subst e
  have s := same_new (o := .tup [x, .bl (nul p), .str y, .ref a]) n
  exact ⟨t, x, a, ws, rfl, SqT.of upd_same, u.mono (TS.of s), s _ _ ha, da, hn, hk⟩
theorem E6.len {H : Hp} {D : Addr → Prop} {m : Pat × Str} {v : V} (h : E6 K H D m v) (h1 : siz m.1 ≤ 1000) (h2 : m.2.length ≤ 1000) : ∃ t x a ws, v = .ref t ∧ SqT K H t [x, .bl (nul m.1), .str m.2, .ref a] ∧ PAt K H m.1 x ∧ H a = some (.lst (nat2 ws)) ∧ D a ∧ nr m.1 = true ∧ TakesBy m.1 m.2.cps.toList ws ∧ ws.length < 3000000 := by
  obtain ⟨t, x, a, ws, h3, q, u, hl, dl, n, k⟩ := h
  exact ⟨t, x, a, ws, h3, q, u, hl, dl, n, k, tb_len k n h1 (by rw [str_len]; omega)⟩
theorem pile_mem {i : Nat} {num : Int} {ps : List (Pat × Str)} (h : Pile i num ps) (hi : i ≤ 41) : ∀ m ∈ ps, m.2.length ≤ 600 ∧ siz m.1 ≤ 205 := by
  have h1 := h.zs
  have key : ∀ (ps : List (Pat × Str)), ∀ m ∈ ps, siz m.1 ≤ sumB (fun m => siz m.1) ps := fun ps => by
    induction ps with
    | nil => intro m hm; cases hm
    | cons x ps ih =>
      intro m hm
      unfold sumB at *
      rw [List.map_cons, List.sum_cons]
      rcases List.mem_cons.mp hm with rfl | hm
      · omega
      · have := ih m hm
        omega
  exact fun m hm => ⟨(h.len hi).2 m hm, by have := key ps m hm; omega⟩

end
end G1

set_option maxRecDepth 100000
set_option maxHeartbeats 4000000
namespace G1
open PySem PySem.Spec PyProof.Rows L2 Gm
section
variable {P : Program} {w : World} {K : PySem.W.Frag} {mg : Str → Option Value} {base : Heap}
theorem SAt.mk {H : Hp} {c t : Addr} {r : List Th} {k : Nat} {vs : List V} (n : H t = none) (h : SqT K H c vs) (p : TAts K H r vs) : SAt K (upd H t (.tup [.ref c, .int (k : Int)])) (r, k) (.ref t) :=
  ⟨t, .ref c, rfl, SqT.of upd_same, c, vs, rfl, TS.new n _ _ h, TAts.mono (TS.new n) p⟩
def sp_law_onward (K : PySem.W.Frag) : Sp := fun vs H Q _ => ∃ (R : List Th) (v : V) (k : Nat) (z : Str), vs = [v, .str z] ∧ SAt K H (R, k) v ∧ R.length ≤ 1000 ∧ k ≤ z.length ∧ z.length ≤ 1000 ∧
  ∀ (r : Addr) (ws : List V) (H' : Hp), Same H H' → H r = none → H' r = some (.lst ws) → SAts K H' (step z.cps.toList (R, k)) ws → Q (.ref r) H'
theorem ok__law_onward (T : Txt w K mg) : FnOk P w K mg base CX0 1 T.f__law_onward T.fd__law_onward ["_law_state", "_law_text"] (sp_law_onward K) := by
  refine T.F__law_onward.ok sc__law_onward (fun vs H Q E h => ?_) (fun cdv A outer s H vs Q E hr h => ?_)
  · obtain ⟨R, v, k, z, rfl, _⟩ := h
    rfl
  obtain ⟨rs, v, k, z, rfl, ⟨sa, sx, rfl, hs, ⟨b, ts, rfl, hb, pts⟩⟩, hl, hk, hz, q⟩ := h
  refine ⟨_, (pss_cons (ps_set (i := 2) sc__law_onward.nd rfl (.inl rfl) (pe_ix ix_tup (pv 0) pe_int (fun _ _ => rfl)))
  (pss_cons (ps_set (i := 3) sc__law_onward.nd rfl (.inl rfl) (pe_ix ix_tup (pv 0) pe_int (fun _ _ => rfl)))
  (pss_cons (ps_if (pt_cmpR op_eq (pe_callB call_len_seq (by rfl) T.n_len PySem.boot_len (pa_cons (pv 2) pa_nil)) pe_int (nomark _))
    (pss_one (ps_ret (pe_lst pa_nil)))
    pss_nil)
  (pss_cons (ps_set (i := 4) sc__law_onward.nd rfl (.inl rfl) (pe_ix ix_tup (pv 2) pe_int (fun _ _ => rfl)))
  (pss_cons (ps_set (i := 5) sc__law_onward.nd rfl (.inl rfl) (pe_slice sl_tupA (pv 2) (po_some pe_int) po_none))
  (pss_cons (ps_if (PW.pt (pw_or (pt_cmpR op_eq (pe_ix ix_tup (pv 4) pe_int (fun _ _ => rfl)) pe_str (nomark _)) (pw_or1 (pt_cmpR op_eq (pe_ix ix_tup (pv 4) pe_int (fun _ _ => rfl)) pe_str (nomark _)))))
    (pss_cons (ps_if (PW.pt (pw_or (pt_cmpR op_eq (pv 3) (pe_callB call_len (by rfl) T.n_len PySem.boot_len (pa_cons (pv 1) pa_nil)) (nomark _)) (pw_or1 (PW.pt (pw_and (pt_cmpR op_eq (pe_ix ix_tup (pv 4) pe_int (fun _ _ => rfl)) pe_str (nomark _)) (pw_and1 (pt_cmpR op_ne (pe_ix ix_tup (pv 4) pe_int (fun _ _ => rfl)) (pe_ix ix_str (pv 1) (pv 3) (fun _ _ => rfl)) (nomark _))))))))
    (pss_one (ps_ret (pe_lst pa_nil)))
    pss_nil)
  (pss_one (ps_ret (pe_lst (pa_cons (pe_tup (pa_cons (pv 5) (pa_cons (pe_op op_add (pv 3) pe_int) pa_nil))) pa_nil)))))
    pss_nil)
  (pss_cons (ps_if (pt_cmpR op_eq (pe_ix ix_tup (pv 4) pe_int (fun _ _ => rfl)) pe_str (nomark _))
    (pss_one (ps_ret (pe_lst (pa_cons (pe_tup (pa_cons (pe_op op_catA (pe_tup (pa_cons (pe_ix ix_tup (pv 4) pe_int (fun _ _ => rfl)) (pa_cons (pe_ix ix_tup (pv 4) pe_int (fun _ _ => rfl)) pa_nil))) (pv 5)) (pa_cons (pv 3) pa_nil))) pa_nil))))
    pss_nil)
  (pss_cons (ps_if (pt_cmpR op_eq (pe_ix ix_tup (pv 4) pe_int (fun _ _ => rfl)) pe_str (nomark _))
    (pss_one (ps_ret (pe_lst (pa_cons (pe_tup (pa_cons (pe_op op_catA (pe_tup (pa_cons (pe_ix ix_tup (pv 4) pe_int (fun _ _ => rfl)) pa_nil)) (pv 5)) (pa_cons (pv 3) pa_nil))) (pa_cons (pe_tup (pa_cons (pe_op op_catA (pe_tup (pa_cons (pe_ix ix_tup (pv 4) pe_int (fun _ _ => rfl)) pa_nil)) (pv 5)) (pa_cons (pv 3) pa_nil))) pa_nil)))))
    pss_nil)
  (pss_cons (ps_if (pt_cmpR op_eq (pe_ix ix_tup (pv 4) pe_int (fun _ _ => rfl)) pe_str (nomark _))
    (pss_one (ps_ret (pe_lst (pa_cons (pe_tup (pa_cons (pe_op op_catA (pe_tup (pa_cons (pe_ix ix_tup (pv 4) pe_int (fun _ _ => rfl)) (pa_cons (pv 4) pa_nil))) (pv 5)) (pa_cons (pv 3) pa_nil))) (pa_cons (pe_tup (pa_cons (pv 5) (pa_cons (pv 3) pa_nil))) pa_nil)))))
    pss_nil)
  (pss_cons (ps_if (pt_cmpR op_eq (pe_ix ix_tup (pv 4) pe_int (fun _ _ => rfl)) pe_str (nomark _))
    (pss_one (ps_ret (pe_lst (pa_cons (pe_tup (pa_cons (pv 5) (pa_cons (pv 3) pa_nil))) (pa_cons (pe_tup (pa_cons (pe_op op_catA (pe_tup (pa_cons (pe_ix ix_tup (pv 4) pe_int (fun _ _ => rfl)) (pa_cons (pv 4) pa_nil))) (pv 5)) (pa_cons (pv 3) pa_nil))) pa_nil)))))
    pss_nil)
  (pss_cons (ps_if (pt_cmpR op_eq (pe_ix ix_tup (pv 4) pe_int (fun _ _ => rfl)) pe_str (nomark _))
    (pss_one (ps_ret (pe_lst (pa_cons (pe_tup (pa_cons (pe_op op_catA (pe_tup (pa_cons (pe_ix ix_tup (pv 4) pe_int (fun _ _ => rfl)) (pa_cons (pe_tup (pa_cons pe_str (pa_cons (pe_ix ix_tup (pv 4) pe_int (fun _ _ => rfl)) pa_nil))) pa_nil))) (pv 5)) (pa_cons (pv 3) pa_nil))) pa_nil))))
    pss_nil)
  (pss_one (ps_ret (pe_lst (pa_cons (pe_tup (pa_cons (pv 5) (pa_cons (pv 3) pa_nil))) pa_nil))))))))))))))), ?_⟩
  refine ⟨_, rfl, _, _, _, _, rfl, rfl, hs, at0 rfl, _, rfl, _, _, _, _, rfl, rfl, hs, at1 rfl, ?_⟩
  refine ⟨_, rfl, b, _, rfl, .inr hb, rfl, _, rfl, ?_⟩
  cases pts with
  | nil =>
    refine iteT ?_
    exact ⟨Nat.zero_le _, fun r nr => q r _ _ (same_new nr) nr upd_same .nil⟩
  | @cons t tv R vR ht pR =>
    refine ite2 (fun c => ?_) (fun _ => ?_)
    · have c' := V.int.inj (of_decide_eq_true c)
      rw [List.length_cons] at c'
      omega
    have lR : R.length = vR.length := Paired.length pR
    rw [List.length_cons] at hl
    refine ⟨_, rfl, _, _, _, _, rfl, rfl, hb, at0 rfl, ?_⟩
    refine ⟨_, rfl, _, rfl, b, _, rfl, hb, fun h => absurd h (not_whole _ _), fun _ bb nbb => ?_⟩
    rw [cut_tail]
    have s1 := same_new (o := .tup vR) nbb
    have hbb : SqT K (upd H bb (.tup vR)) bb vR := SqT.of upd_same
    have ht1 := ht.mono (TS.of (K := K) s1)
    have pR1 := TAts.mono (TS.of (K := K) s1) pR
    generalize upd H bb (.tup vR) = H1 at s1 hbb ht1 pR1
    have beh : ∀ {H2 : Hp} {t2 : Addr} {k' : Nat}, Same H1 H2 → (n2 : H2 t2 = none) → SAt K (upd H2 t2 (.tup [.ref bb, .int (k' : Int)])) (R, k') (.ref t2) := fun s2 n2 =>
      SAt.mk n2 (TS.of (K := K) s2 _ _ hbb) (TAts.mono (TS.of s2) pR1)
    cases t with
    | close n =>
      obtain ⟨c, rfl, hc⟩ := ht1
      refine ⟨_, rfl, _, _, _, _, rfl, rfl, hc, at0 rfl, rfl, _, rfl, iteF ?_⟩
      refine ⟨_, rfl, _, _, _, _, rfl, rfl, hc, at0 rfl, rfl, _, rfl, iteF ?_⟩
      refine ⟨_, rfl, _, _, _, _, rfl, rfl, hc, at0 rfl, rfl, _, rfl, iteF ?_⟩
      refine ⟨_, rfl, _, _, _, _, rfl, rfl, hc, at0 rfl, rfl, _, rfl, iteF ?_⟩
      refine ⟨_, rfl, _, _, _, _, rfl, rfl, hc, at0 rfl, rfl, _, rfl, iteF ?_⟩
      refine ⟨_, rfl, _, _, _, _, rfl, rfl, hc, at0 rfl, rfl, _, rfl, iteF ?_⟩
      refine ⟨_, rfl, _, _, _, _, rfl, rfl, hc, at0 rfl, rfl, _, rfl, iteF ?_⟩
      refine ⟨_, rfl, _, rfl, sz (by show 2 ≤ 10000; decide), fun t2 n2 => ⟨sz (by show 1 ≤ 10000; decide), fun r nr => ?_⟩⟩
      have s2 := (same_new (o := .tup [.ref bb, .int (k : Int)]) n2).trans (same_new (o := .lst [.ref t2]) nr)
      exact q r _ _ (s1.trans s2) (s1.free ((same_new n2).free nr)) upd_same (.cons ((beh (Same.refl _) n2).mono (TS.new nr)) .nil)
    | pat p =>
      obtain ⟨c, ws, rfl, hc, _⟩ := PAt.node ht1
      cases p with
      | sign c0 =>
        refine ⟨_, rfl, _, _, _, _, rfl, rfl, hc, at0 rfl, rfl, _, rfl, iteT (iteT ?_)⟩
        refine ⟨_, rfl, _, rfl, _, _, rfl, ⟨sz (by omega), rfl⟩, rfl, _, rfl, ?_⟩
        refine ite2 (fun e => ?_) (fun e => ?_)
        · refine iteT ?_
          refine ⟨Nat.zero_le _, fun r nr => q r _ _ (s1.trans (same_new nr)) (s1.free nr) upd_same ?_⟩
          have e' := V.int.inj (of_decide_eq_true e)
          have hn : z.cps.toList[k]? = none := List.getElem?_eq_none (by rw [str_len]; omega)
          show SAts K _ (if z.cps.toList[k]? = some c0 then [(R, k + 1)] else []) []
          rw [hn, if_neg (fun z => nomatch z)]
          exact .nil
        · have e' : (k : Int) ≠ ((z.length : Nat) : Int) := fun h => e (decide_eq_true (by rw [h]))
          have hk' : k < z.cps.toList.length := by
            rw [str_len]
            omega
          refine ⟨_, rfl, _, _, _, _, rfl, rfl, hc, at0 rfl, rfl, _, rfl, iteT ?_⟩
          refine ⟨_, rfl, _, _, _, _, rfl, rfl, hc, at1 rfl, _, rfl, _, rfl, z, _, z.cps.toList[k], rfl, rfl, sz (by omega), atI_nat (List.getElem?_eq_getElem hk'), rfl, _, rfl, ?_⟩
          refine ite2 (fun d => ?_) (fun d => ?_)
          · refine ⟨Nat.zero_le _, fun r nr => q r _ _ (s1.trans (same_new nr)) (s1.free nr) upd_same ?_⟩
            have hne : ¬ z.cps.toList[k]? = some c0 := fun h => by
              rw [List.getElem?_eq_getElem hk'] at h
              have h' := Option.some.inj h
              rw [h'] at d
              exact absurd d (by rw [decide_eq_true rfl]; decide)
            show SAts K _ (if z.cps.toList[k]? = some c0 then [(R, k + 1)] else []) []
            rw [if_neg hne]
            exact .nil
          · have heq : z.cps.toList[k]? = some c0 := by
              rw [List.getElem?_eq_getElem hk']
              have d' : decide (V.str ⟨#[c0]⟩ = V.str ⟨#[z.cps.toList[k]]⟩) = true := by
                cases hd : decide (V.str ⟨#[c0]⟩ = V.str ⟨#[z.cps.toList[k]]⟩) with
                | true => rfl
                | false => exact absurd (by show (!decide (V.str ⟨#[c0]⟩ = V.str ⟨#[z.cps.toList[k]]⟩)) = true; rw [hd]; rfl) d
              have d2 := congrArg (fun s : Str => s.cps.toList) (V.str.inj (of_decide_eq_true d'))
              simp at d2
              rw [d2]
              simp
            refine ⟨_, rfl, _, rfl, _, _, rfl, rfl, sz (by show 2 ≤ 10000; decide), fun t2 n2 => ⟨sz (by show 1 ≤ 10000; decide), fun r nr => ?_⟩⟩
            have s2 := (same_new (o := .tup [.ref bb, .int ((k : Int) + 1)]) n2).trans (same_new (o := .lst [.ref t2]) nr)
            refine q r _ _ (s1.trans s2) (s1.free ((same_new n2).free nr)) upd_same ?_
            show SAts K _ (if z.cps.toList[k]? = some c0 then [(R, k + 1)] else []) [.ref t2]
            rw [if_pos heq]
            exact .cons ((beh (k' := k + 1) (Same.refl _) n2).mono (TS.new nr)) .nil
      | any =>
        refine ⟨_, rfl, _, _, _, _, rfl, rfl, hc, at0 rfl, rfl, _, rfl, iteF ?_⟩
        refine ⟨_, rfl, _, _, _, _, rfl, rfl, hc, at0 rfl, rfl, _, rfl, iteT ?_⟩
        refine ⟨_, rfl, _, rfl, _, _, rfl, ⟨sz (by omega), rfl⟩, rfl, _, rfl, ?_⟩
        refine ite2 (fun e => ?_) (fun e => ?_)
        · refine iteT ?_
          refine ⟨Nat.zero_le _, fun r nr => q r _ _ (s1.trans (same_new nr)) (s1.free nr) upd_same ?_⟩
          have e' := V.int.inj (of_decide_eq_true e)
          show SAts K _ (if k < z.cps.toList.length then [(R, k + 1)] else []) []
          rw [if_neg (by rw [str_len]; omega)]
          exact .nil
        · have e' : (k : Int) ≠ ((z.length : Nat) : Int) := fun h => e (decide_eq_true (by rw [h]))
          refine ⟨_, rfl, _, _, _, _, rfl, rfl, hc, at0 rfl, rfl, _, rfl, iteF (iteF ?_)⟩
          refine ⟨_, rfl, _, rfl, _, _, rfl, rfl, sz (by show 2 ≤ 10000; decide), fun t2 n2 => ⟨sz (by show 1 ≤ 10000; decide), fun r nr => ?_⟩⟩
          have s2 := (same_new (o := .tup [.ref bb, .int ((k : Int) + 1)]) n2).trans (same_new (o := .lst [.ref t2]) nr)
          refine q r _ _ (s1.trans s2) (s1.free ((same_new n2).free nr)) upd_same ?_
          show SAts K _ (if k < z.cps.toList.length then [(R, k + 1)] else []) [.ref t2]
          rw [if_pos (by rw [str_len]; omega)]
          exact .cons ((beh (k' := k + 1) (Same.refl _) n2).mono (TS.new nr)) .nil
      | none =>
        refine ⟨_, rfl, _, _, _, _, rfl, rfl, hc, at0 rfl, rfl, _, rfl, iteF ?_⟩
        refine ⟨_, rfl, _, _, _, _, rfl, rfl, hc, at0 rfl, rfl, _, rfl, iteF ?_⟩
        refine ⟨_, rfl, _, _, _, _, rfl, rfl, hc, at0 rfl, rfl, _, rfl, iteF ?_⟩
        refine ⟨_, rfl, _, _, _, _, rfl, rfl, hc, at0 rfl, rfl, _, rfl, iteF ?_⟩
        refine ⟨_, rfl, _, _, _, _, rfl, rfl, hc, at0 rfl, rfl, _, rfl, iteF ?_⟩
        refine ⟨_, rfl, _, _, _, _, rfl, rfl, hc, at0 rfl, rfl, _, rfl, iteF ?_⟩
        refine ⟨_, rfl, _, _, _, _, rfl, rfl, hc, at0 rfl, rfl, _, rfl, iteF ?_⟩
        refine ⟨_, rfl, _, rfl, sz (by show 2 ≤ 10000; decide), fun t2 n2 => ⟨sz (by show 1 ≤ 10000; decide), fun r nr => ?_⟩⟩
        have s2 := (same_new (o := .tup [.ref bb, .int (k : Int)]) n2).trans (same_new (o := .lst [.ref t2]) nr)
        exact q r _ _ (s1.trans s2) (s1.free ((same_new n2).free nr)) upd_same (.cons ((beh (Same.refl _) n2).mono (TS.new nr)) .nil)
      | row p1 p2 =>
        obtain ⟨_, x, y, e0, hx, u1, u2⟩ := ht1
        cases e0
        refine ⟨_, rfl, _, _, _, _, rfl, rfl, hx, at0 rfl, rfl, _, rfl, iteF ?_⟩
        refine ⟨_, rfl, _, _, _, _, rfl, rfl, hx, at0 rfl, rfl, _, rfl, iteF ?_⟩
        refine ⟨_, rfl, _, _, _, _, rfl, rfl, hx, at0 rfl, rfl, _, rfl, iteT ?_⟩
        refine ⟨_, rfl, _, _, _, _, rfl, rfl, hx, at1 rfl, _, rfl, _, _, _, _, rfl, rfl, hx, at2 rfl, sz (by show 2 ≤ 10000; decide), fun t1 n1 => ⟨_, rfl, ?_⟩⟩
        have sA := same_new (o := .tup [x, y]) n1
        refine r_catA (SqT.of upd_same) (TS.of (K := K) sA _ _ hbb) (sz (by show 2 + vR.length ≤ 10000; omega)) (fun cc H3 s3 hcc => ?_)
        refine ⟨_, rfl, sz (by show 2 ≤ 10000; decide), fun t2 n2 => ⟨sz (by show 1 ≤ 10000; decide), fun r nr => ?_⟩⟩
        have sB := sA.trans s3
        have s2 := sB.trans ((same_new (o := .tup [.ref cc, .int (k : Int)]) n2).trans (same_new (o := .lst [.ref t2]) nr))
        refine q r _ _ (s1.trans s2) (s1.free (sB.free ((same_new n2).free nr))) upd_same (.cons ((SAt.mk n2 hcc ?_).mono (TS.new nr)) .nil)
        exact .cons (show TAt K H3 (.pat p1) x from u1.mono (TS.of sB)) (.cons (show TAt K H3 (.pat p2) y from u2.mono (TS.of sB)) (TAts.mono (TS.of sB) pR1))
      | or p1 p2 =>
        obtain ⟨_, x, y, e0, hx, u1, u2⟩ := ht1
        cases e0
        refine ⟨_, rfl, _, _, _, _, rfl, rfl, hx, at0 rfl, rfl, _, rfl, iteF ?_⟩
        refine ⟨_, rfl, _, _, _, _, rfl, rfl, hx, at0 rfl, rfl, _, rfl, iteF ?_⟩
        refine ⟨_, rfl, _, _, _, _, rfl, rfl, hx, at0 rfl, rfl, _, rfl, iteF ?_⟩
        refine ⟨_, rfl, _, _, _, _, rfl, rfl, hx, at0 rfl, rfl, _, rfl, iteT ?_⟩
        refine ⟨_, rfl, _, _, _, _, rfl, rfl, hx, at1 rfl, sz (by show 1 ≤ 10000; decide), fun t1 n1 => ⟨_, rfl, ?_⟩⟩
        have sA := same_new (o := .tup [x]) n1
        refine r_catA (SqT.of upd_same) (TS.of (K := K) sA _ _ hbb) (sz (by show 1 + vR.length ≤ 10000; omega)) (fun cc H3 s3 hcc => ?_)
        have sB := sA.trans s3
        refine ⟨_, rfl, sz (by show 2 ≤ 10000; decide), fun t2 n2 => ?_⟩
        have sC := sB.trans (same_new (o := .tup [.ref cc, .int (k : Int)]) n2)
        have a1 : SAt K (upd H3 t2 (.tup [.ref cc, .int (k : Int)])) (.pat p1 :: R, k) (.ref t2) := SAt.mk n2 hcc (.cons (show TAt K H3 (.pat p1) x from u1.mono (TS.of sB)) (TAts.mono (TS.of sB) pR1))
        have hxC := TS.of (K := K) sC _ _ hx
        refine ⟨_, rfl, _, _, _, _, rfl, rfl, hxC, at2 rfl, sz (by show 1 ≤ 10000; decide), fun t3 n3 => ⟨_, rfl, ?_⟩⟩
        have sD := sC.trans (same_new (o := .tup [y]) n3)
        refine r_catA (SqT.of upd_same) (TS.of (K := K) sD _ _ hbb) (sz (by show 1 + vR.length ≤ 10000; omega)) (fun cc2 H5 s5 hcc2 => ?_)
        have sE := sD.trans s5
        refine ⟨_, rfl, sz (by show 2 ≤ 10000; decide), fun t4 n4 => ⟨sz (by show 2 ≤ 10000; decide), fun r nr => ?_⟩⟩
        have sF := (same_new (o := .tup [.ref cc2, .int (k : Int)]) n4).trans (same_new (o := .lst [.ref t2, .ref t4]) nr)
        refine q r _ _ (s1.trans (sE.trans sF)) (s1.free (sE.free ((same_new n4).free nr))) upd_same (.cons (a1.mono (TS.of ((same_new (o := .tup [y]) n3).trans (s5.trans sF)))) (.cons ((SAt.mk n4 hcc2 ?_).mono (TS.new nr)) .nil))
        exact .cons (show TAt K H5 (.pat p2) y from u2.mono (TS.of sE)) (TAts.mono (TS.of sE) pR1)
      | more p1 =>
        have hm : TAt K H1 (.pat (.more p1)) (.ref c) := ht1
        obtain ⟨_, x, e0, hx, u1⟩ := ht1
        cases e0
        refine ⟨_, rfl, _, _, _, _, rfl, rfl, hx, at0 rfl, rfl, _, rfl, iteF ?_⟩
        refine ⟨_, rfl, _, _, _, _, rfl, rfl, hx, at0 rfl, rfl, _, rfl, iteF ?_⟩
        refine ⟨_, rfl, _, _, _, _, rfl, rfl, hx, at0 rfl, rfl, _, rfl, iteF ?_⟩
        refine ⟨_, rfl, _, _, _, _, rfl, rfl, hx, at0 rfl, rfl, _, rfl, iteF ?_⟩
        refine ⟨_, rfl, _, _, _, _, rfl, rfl, hx, at0 rfl, rfl, _, rfl, iteT ?_⟩
        refine ⟨_, rfl, _, _, _, _, rfl, rfl, hx, at1 rfl, _, rfl, sz (by show 2 ≤ 10000; decide), fun t1 n1 => ⟨_, rfl, ?_⟩⟩
        have sA := same_new (o := .tup [x, .ref c]) n1
        refine r_catA (SqT.of upd_same) (TS.of (K := K) sA _ _ hbb) (sz (by show 2 + vR.length ≤ 10000; omega)) (fun cc H3 s3 hcc => ?_)
        have sB := sA.trans s3
        refine ⟨_, rfl, sz (by show 2 ≤ 10000; decide), fun t2 n2 => ?_⟩
        have sC := sB.trans (same_new (o := .tup [.ref cc, .int (k : Int)]) n2)
        have a1 : SAt K (upd H3 t2 (.tup [.ref cc, .int (k : Int)])) (.pat p1 :: .pat (.more p1) :: R, k) (.ref t2) := SAt.mk n2 hcc (.cons (show TAt K H3 (.pat p1) x from u1.mono (TS.of sB)) (.cons (hm.mono (TS.of sB)) (TAts.mono (TS.of sB) pR1)))
        refine ⟨_, rfl, _, rfl, sz (by show 2 ≤ 10000; decide), fun t4 n4 => ⟨sz (by show 2 ≤ 10000; decide), fun r nr => ?_⟩⟩
        have sF := (same_new (o := .tup [.ref bb, .int (k : Int)]) n4).trans (same_new (o := .lst [.ref t2, .ref t4]) nr)
        exact q r _ _ (s1.trans (sC.trans sF)) (s1.free (sC.free ((same_new n4).free nr))) upd_same (.cons (a1.mono (TS.of sF)) (.cons ((beh sC n4).mono (TS.new nr)) .nil))
      | less p1 =>
        have hm : TAt K H1 (.pat (.less p1)) (.ref c) := ht1
        obtain ⟨_, x, e0, hx, u1⟩ := ht1
        cases e0
        refine ⟨_, rfl, _, _, _, _, rfl, rfl, hx, at0 rfl, rfl, _, rfl, iteF ?_⟩
        refine ⟨_, rfl, _, _, _, _, rfl, rfl, hx, at0 rfl, rfl, _, rfl, iteF ?_⟩
        refine ⟨_, rfl, _, _, _, _, rfl, rfl, hx, at0 rfl, rfl, _, rfl, iteF ?_⟩
        refine ⟨_, rfl, _, _, _, _, rfl, rfl, hx, at0 rfl, rfl, _, rfl, iteF ?_⟩
        refine ⟨_, rfl, _, _, _, _, rfl, rfl, hx, at0 rfl, rfl, _, rfl, iteF ?_⟩
        refine ⟨_, rfl, _, _, _, _, rfl, rfl, hx, at0 rfl, rfl, _, rfl, iteT ?_⟩
        refine ⟨_, rfl, _, rfl, sz (by show 2 ≤ 10000; decide), fun t4 n4 => ?_⟩
        have s0 := same_new (o := .tup [.ref bb, .int (k : Int)]) n4
        have a4 := beh (k' := k) (Same.refl _) n4
        have hx0 := TS.of (K := K) s0 _ _ hx
        refine ⟨_, rfl, _, _, _, _, rfl, rfl, hx0, at1 rfl, _, rfl, sz (by show 2 ≤ 10000; decide), fun t1 n1 => ⟨_, rfl, ?_⟩⟩
        have sA := s0.trans (same_new (o := .tup [x, .ref c]) n1)
        refine r_catA (SqT.of upd_same) (TS.of (K := K) sA _ _ hbb) (sz (by show 2 + vR.length ≤ 10000; omega)) (fun cc H3 s3 hcc => ?_)
        have sB := sA.trans s3
        refine ⟨_, rfl, sz (by show 2 ≤ 10000; decide), fun t2 n2 => ⟨sz (by show 2 ≤ 10000; decide), fun r nr => ?_⟩⟩
        have sF := (same_new (o := .tup [.ref cc, .int (k : Int)]) n2).trans (same_new (o := .lst [.ref t4, .ref t2]) nr)
        refine q r _ _ (s1.trans (sB.trans sF)) (s1.free (sB.free ((same_new n2).free nr))) upd_same (.cons (a4.mono (TS.of ((same_new (o := .tup [x, .ref c]) n1).trans (s3.trans sF)))) (.cons ((SAt.mk n2 hcc ?_).mono (TS.new nr)) .nil))
        exact .cons (show TAt K H3 (.pat p1) x from u1.mono (TS.of sB)) (.cons (hm.mono (TS.of sB)) (TAts.mono (TS.of sB) pR1))
      | group n p1 =>
        obtain ⟨_, x, e0, _, hx, u1⟩ := ht1
        cases e0
        refine ⟨_, rfl, _, _, _, _, rfl, rfl, hx, at0 rfl, rfl, _, rfl, iteF ?_⟩
        refine ⟨_, rfl, _, _, _, _, rfl, rfl, hx, at0 rfl, rfl, _, rfl, iteF ?_⟩
        refine ⟨_, rfl, _, _, _, _, rfl, rfl, hx, at0 rfl, rfl, _, rfl, iteF ?_⟩
        refine ⟨_, rfl, _, _, _, _, rfl, rfl, hx, at0 rfl, rfl, _, rfl, iteF ?_⟩
        refine ⟨_, rfl, _, _, _, _, rfl, rfl, hx, at0 rfl, rfl, _, rfl, iteF ?_⟩
        refine ⟨_, rfl, _, _, _, _, rfl, rfl, hx, at0 rfl, rfl, _, rfl, iteF ?_⟩
        refine ⟨_, rfl, _, _, _, _, rfl, rfl, hx, at0 rfl, rfl, _, rfl, iteT ?_⟩
        refine ⟨_, rfl, _, _, _, _, rfl, rfl, hx, at2 rfl, _, rfl, _, _, _, _, rfl, rfl, hx, at1 rfl, sz (by show 2 ≤ 10000; decide), fun t0 n0 => ⟨sz (by show 2 ≤ 10000; decide), fun t1 n1 => ⟨_, rfl, ?_⟩⟩⟩
        have s0 := same_new (o := .tup [.str "close", .int n]) n0
        have sA := s0.trans (same_new (o := .tup [x, .ref t0]) n1)
        refine r_catA (SqT.of upd_same) (TS.of (K := K) sA _ _ hbb) (sz (by show 2 + vR.length ≤ 10000; omega)) (fun cc H3 s3 hcc => ?_)
        have sB := sA.trans s3
        refine ⟨_, rfl, sz (by show 2 ≤ 10000; decide), fun t2 n2 => ⟨sz (by show 1 ≤ 10000; decide), fun r nr => ?_⟩⟩
        have sF := (same_new (o := .tup [.ref cc, .int (k : Int)]) n2).trans (same_new (o := .lst [.ref t2]) nr)
        refine q r _ _ (s1.trans (sB.trans sF)) (s1.free (sB.free ((same_new n2).free nr))) upd_same (.cons ((SAt.mk n2 hcc ?_).mono (TS.new nr)) .nil)
        exact .cons (show TAt K H3 (.pat p1) x from u1.mono (TS.of sB)) (.cons (show TAt K H3 (.close n) (.ref t0) from ⟨t0, rfl, TS.of (K := K) ((same_new (o := .tup [x, .ref t0]) n1).trans s3) _ _ (SqT.of upd_same)⟩) (TAts.mono (TS.of sB) pR1))

end
end G1

set_option maxRecDepth 100000
set_option maxHeartbeats 4000000
namespace G1
open PySem PySem.Spec PyProof.Rows L2 Gm
section
variable {P : Program} {w : World} {K : PySem.W.Frag} {mg : Str → Option Value} {base : Heap}
def sp_leaf (K : PySem.W.Frag) : Sp := fun vs H Q _ => ∃ (c h : Int), vs = [.int c, .int h] ∧
  ∀ (t : Addr) (p : Pat) (y : Str) (H' : Hp), Same H H' → E6 K H' (fun a => H a = none) (p, y) (.ref t) → siz p = 1 → dep p = 1 → nums (subs p) = [] → y.length ≤ 1 → Q (.ref t) H'
theorem ok__law_leaf (T : Txt w K mg) : FnOk P w K mg base CX0 2 T.f__law_leaf T.fd__law_leaf ["_law_cell", "_law_head"] (sp_leaf K) := by
  refine T.F__law_leaf.ok sc__law_leaf (fun vs H Q E h => ?_) (fun cdv A outer s H vs Q E hr h => ?_)
  · obtain ⟨c, h, rfl, _⟩ := h
    rfl
  obtain ⟨c, h, rfl, q⟩ := h
  refine ⟨_, (pss_cons (ps_set (i := 2) sc__law_leaf.nd rfl (.inl rfl) (pe_call (ok__law_sign T) (hr.mono (by decide)) (by rfl) T.m__law_sign T.F__law_sign.kp T.b__law_sign .nil pass0 (pa_cons (pe_ix ix_list (pe_lst (pa_cons (pv 1) (pa_cons (pv 1) (pa_cons (pv 1) (pa_cons (pe_op op_fdiv (pv 1) pe_int) (pa_cons (pe_op op_fdiv (pv 0) pe_int) (pa_cons (pe_op op_fdiv (pv 1) pe_int) pa_nil))))))) (pe_op op_mod (pv 0) pe_int) (fun _ _ => rfl)) pa_nil)))
  (pss_cons (ps_if (PW.pt (pw_and (pt_cmpR op_eq (pe_op op_mod (pv 0) pe_int) pe_int (nomark _)) (pw_and1 (pt_cmpR op_eq (pe_op op_mod (pe_op op_fdiv (pv 0) pe_int) pe_int) pe_int (nomark _)))))
    (pss_one (ps_ret (pe_tup (pa_cons (pe_tup (pa_cons pe_str pa_nil)) (pa_cons pe_bl (pa_cons pe_str (pa_cons (pe_lst pa_nil) pa_nil)))))))
    pss_nil)
  (pss_cons (ps_if (pt_cmpR op_eq (pe_op op_mod (pv 0) pe_int) pe_int (nomark _))
    (pss_one (ps_ret (pe_tup (pa_cons (pe_tup (pa_cons pe_str pa_nil)) (pa_cons pe_bl (pa_cons (pv 2) (pa_cons (pe_lst pa_nil) pa_nil)))))))
    pss_nil)
  (pss_one (ps_ret (pe_tup (pa_cons (pe_tup (pa_cons pe_str (pa_cons (pv 2) pa_nil))) (pa_cons pe_bl (pa_cons (pv 2) (pa_cons (pe_lst pa_nil) pa_nil)))))))))), ?_⟩
  have k0 := Int.emod_nonneg c (show (6 : Int) ≠ 0 by decide)
  have k1 := Int.emod_lt_of_pos c (show (0 : Int) < 6 by decide)
  obtain ⟨e, he⟩ := pickI (xs := [h, h, h, h / 95, c / 6, h / 95]) k0 k1
  refine ⟨_, rfl, _, rfl, _, rfl, _, rfl, _, _, rfl, rfl, ⟨by decide, by decide⟩, _, rfl, _, _, rfl, rfl, ⟨by decide, by decide⟩, _, rfl, _, _, rfl, rfl, ⟨by decide, by decide⟩, sz (by show 6 ≤ 10000; decide), fun l nl => ?_⟩
  have sl := same_new (o := .lst [.int h, .int h, .int h, .int (h / 95), .int (c / 6), .int (h / 95)]) nl
  refine ⟨_, rfl, _, _, rfl, rfl, (by show (0 : Int) < 6; decide), l, _, _, .int e, rfl, rfl, SqL.of upd_same, he, _, rfl, ?_⟩
  refine g_nx (seq_if (if_tst (b := decide (V.int (c % 6) = V.int 5) && decide (V.int (c / 6 % 3) = V.int 0)) (tst_and (fun Q q => ⟨_, rfl, _, _, rfl, rfl, (by show (0 : Int) < 6; decide), rfl, _, rfl, q⟩) (fun Q q => ⟨_, rfl, _, _, rfl, rfl, ⟨by decide, by decide⟩, _, _, rfl, rfl, (by show (0 : Int) < 3; decide), rfl, _, rfl, q⟩)) (fun c1 => ?_) (fun c1 => e_nx ?_)))
  · refine ⟨sz (by show 1 ≤ 10000; decide), fun t1 n1 => ⟨Nat.zero_le _, fun l1 m1 => ⟨sz (by show 4 ≤ 10000; decide), fun t2 n2 => ?_⟩⟩⟩
    have s1 := same_new (o := .tup [.str "none"]) n1
    have s2 := same_new (o := .lst []) m1
    exact q t2 .none "" _ (sl.trans (s1.trans (s2.trans (same_new n2)))) (E6.mk (ws := []) n2 ⟨t1, rfl, TS.of (K := K) s2 _ _ (SqT.of upd_same)⟩ rfl upd_same ((sl.trans s1).free m1) rfl tb_none) rfl rfl rfl (Nat.zero_le _)
  · refine ⟨_, rfl, _, _, rfl, rfl, (by show (0 : Int) < 6; decide), rfl, _, rfl, ?_⟩
    refine ite2 (fun c3 => ?_) (fun c3 => e_nx ?_)
    · refine ⟨sz (by show 1 ≤ 10000; decide), fun t1 n1 => ⟨_, rfl, Nat.zero_le _, fun l1 m1 => ⟨sz (by show 4 ≤ 10000; decide), fun t2 n2 => ?_⟩⟩⟩
      have s1 := same_new (o := .tup [.str "any"]) n1
      have s2 := same_new (o := .lst []) m1
      exact q t2 .any _ _ (sl.trans (s1.trans (s2.trans (same_new n2)))) (E6.mk (ws := []) n2 ⟨t1, rfl, TS.of (K := K) s2 _ _ (SqT.of upd_same)⟩ rfl upd_same ((sl.trans s1).free m1) rfl (tb_any _)) rfl rfl rfl (Nat.le_refl _)
    · refine ⟨_, rfl, sz (by show 2 ≤ 10000; decide), fun t1 n1 => ⟨_, rfl, Nat.zero_le _, fun l1 m1 => ⟨sz (by show 4 ≤ 10000; decide), fun t2 n2 => ?_⟩⟩⟩
      have s1 := same_new (o := .tup [.str "sign", .str ⟨#[lsg e]⟩]) n1
      have s2 := same_new (o := .lst []) m1
      exact q t2 (.sign _) _ _ (sl.trans (s1.trans (s2.trans (same_new n2)))) (E6.mk (ws := []) n2 ⟨t1, rfl, lsg_lt _, TS.of (K := K) s2 _ _ (SqT.of upd_same)⟩ rfl upd_same ((sl.trans s1).free m1) rfl (tb_sign _)) rfl rfl rfl (Nat.le_refl _)

end
end G1

set_option maxRecDepth 100000
set_option maxHeartbeats 4000000
namespace G1
open PySem PySem.Spec PyProof.Rows L2 Gm
section
variable {P : Program} {w : World} {K : PySem.W.Frag} {mg : Str → Option Value} {base : Heap}
def sp_two (K : PySem.W.Frag) : Sp := fun vs H Q _ => ∃ (c : Int) (l r : V) (D : Addr → Prop) (m1 m2 : Pat × Str), vs = [.int c, l, r] ∧ E6 K H D m1 l ∧ E6 K H D m2 r ∧ m1.2.length ≤ 1000 ∧ m2.2.length ≤ 1000 ∧ siz m1.1 ≤ 1000 ∧ siz m2.1 ≤ 1000 ∧
  ∀ (t : Addr) (p : Pat) (y : Str) (H' : Hp), Same H H' → E6 K H' (fun a => H a = none) (p, y) (.ref t) → siz p = 1 + siz m1.1 + siz m2.1 → dep p = 1 + max (dep m1.1) (dep m2.1) → nums (subs p) = nums (subs m1.1) ++ nums (subs m2.1) → y.length ≤ m1.2.length + m2.2.length → Q (.ref t) H'
theorem ok__law_two (T : Txt w K mg) : FnOk P w K mg base CX0 1 T.f__law_two T.fd__law_two ["_law_cell", "_law_left", "_law_right"] (sp_two K) := by
  refine T.F__law_two.ok sc__law_two (fun vs H Q E h => ?_) (fun cdv A outer s H vs Q E hr h => ?_)
  · obtain ⟨c, l, r, D, p1, p2, rfl, _⟩ := h
    rfl
  obtain ⟨c, l, r, D, ⟨p1, y1⟩, ⟨p2, y2⟩, rfl, u1, u2, z1, z2, g1, g2, q⟩ := h
  obtain ⟨a1, x1, l1, w1, rfl, h1, v1, hl1, _, n1, k1, b1⟩ := u1.len g1 z1
  obtain ⟨a2, x2, l2, w2, rfl, h2, v2, hl2, _, n2, k2, b2⟩ := u2.len g2 z2
  simp only at h1 v1 n1 k1 h2 v2 n2 k2 z1 z2 g1 g2 q
  have er : (nr p1 && nr p2) = true := by rw [n1, n2]; rfl
  refine ⟨_, (pss_cons (ps_if (pt_cmpR op_eq (pe_op op_mod (pv 0) pe_int) pe_int (nomark _))
    (pss_one (ps_ret (pe_tup (pa_cons (pe_tup (pa_cons pe_str (pa_cons (pe_ix ix_tup (pv 1) pe_int (fun _ _ => rfl)) (pa_cons (pe_ix ix_tup (pv 2) pe_int (fun _ _ => rfl)) pa_nil)))) (pa_cons (pe_and (pe_ix ix_tup (pv 1) pe_int (fun _ _ => rfl)) (pe_one (pe_ix ix_tup (pv 2) pe_int (fun _ _ => rfl)))) (pa_cons (pe_op op_add_str (pe_ix ix_tup (pv 1) pe_int (fun _ _ => rfl)) (pe_ix ix_tup (pv 2) pe_int (fun _ _ => rfl))) (pa_cons (pe_op op_cat (pe_ix ix_tup (pv 1) pe_int (fun _ _ => rfl)) (pe_ix ix_tup (pv 2) pe_int (fun _ _ => rfl))) pa_nil)))))))
    pss_nil)
  (pss_cons (ps_set (i := 3) sc__law_two.nd rfl (.inl rfl) (pe_ix ix_list (pe_lst (pa_cons (pv 1) (pa_cons (pv 2) pa_nil))) (pe_op op_mod (pe_op op_fdiv (pv 0) pe_int) pe_int) (fun _ _ => rfl)))
  (pss_one (ps_ret (pe_tup (pa_cons (pe_tup (pa_cons pe_str (pa_cons (pe_ix ix_tup (pv 1) pe_int (fun _ _ => rfl)) (pa_cons (pe_ix ix_tup (pv 2) pe_int (fun _ _ => rfl)) pa_nil)))) (pa_cons (pe_or (pe_ix ix_tup (pv 1) pe_int (fun _ _ => rfl)) (pe_one (pe_ix ix_tup (pv 2) pe_int (fun _ _ => rfl)))) (pa_cons (pe_ix ix_tup (pv 3) pe_int (fun _ _ => rfl)) (pa_cons (pe_op op_cat (pe_lst (pa_cons (pe_op op_mod (pe_op op_fdiv (pv 0) pe_int) pe_int) pa_nil)) (pe_ix ix_tup (pv 3) pe_int (fun _ _ => rfl))) pa_nil))))))))), ?_⟩
  refine ⟨_, rfl, _, _, rfl, rfl, (by show (0 : Int) < 2; decide), rfl, _, rfl, ?_⟩
  refine ite2 (fun _ => ?_) (fun _ => ?_)
  · refine ⟨_, rfl, _, _, _, _, rfl, rfl, h1, at0 rfl, _, rfl, _, _, _, _, rfl, rfl, h2, at0 rfl, sz (by show 3 ≤ 10000; decide), fun t1 m1 => ?_⟩
    have s1 := same_new (o := .tup [.str "row", x1, x2]) m1
    have h1' := TS.of (K := K) s1 _ _ h1
    have h2' := TS.of (K := K) s1 _ _ h2
    have done : ∀ {b : Bool}, (nul p1 && nul p2) = b → ∀ l3, upd H t1 (.tup [.str "row", x1, x2]) l3 = none → ∀ t2, upd (upd H t1 (.tup [.str "row", x1, x2])) l3 (.lst (nat2 w1 ++ nat2 w2)) t2 = none →
        Q (.ref t2) (upd (upd (upd H t1 (.tup [.str "row", x1, x2])) l3 (.lst (nat2 w1 ++ nat2 w2))) t2 (.tup [.ref t1, .bl b, .str (y1 ++ y2), .ref l3])) := fun {b} hb l3 m3 t2 m2 => by
      have s3 := same_new (o := .lst (nat2 w1 ++ nat2 w2)) m3
      have s13 := s1.trans s3
      have ec : nat2 w1 ++ nat2 w2 = nat2 (w1 ++ w2) := by unfold nat2; rw [List.map_append]
      exact q t2 (.row p1 p2) (y1 ++ y2) _ (s13.trans (same_new m2)) (E6.mk (ws := w1 ++ w2) m2 ⟨t1, x1, x2, rfl, TS.of (K := K) s3 _ _ (SqT.of upd_same), v1.mono (TS.of s13), v2.mono (TS.of s13)⟩ hb (by rw [← ec]; exact upd_same) (s1.free m3) er (by rw [str_app]; exact tb_row k1 k2)) (siz_row _ _) rfl (ns_row _ _) (Nat.le_of_eq (str_app_len _ _))
    refine ⟨_, rfl, _, _, _, _, rfl, rfl, h1', at1 rfl, _, rfl, ?_⟩
    refine ite2 (fun c1 => ?_) (fun c1 => ?_)
    · exact ⟨_, rfl, _, _, _, _, rfl, rfl, h2', at1 rfl, _, rfl, _, _, _, _, rfl, rfl, h1', at2 rfl, _, rfl, _, _, _, _, rfl, rfl, h2', at2 rfl, _, _, rfl, rfl, sz (by show y1.length + y2.length ≤ 10000; omega), _, rfl, _, _, _, _, rfl, rfl, h1', at3 rfl, _, rfl, _, _, _, _, rfl, rfl, h2', at3 rfl, l1, l2, _, _, rfl, rfl, s1 _ _ hl1, s1 _ _ hl2, by rw [sizeLine_eq, nat2_len, nat2_len]; omega, fun l3 m3 => ⟨sz (by show 4 ≤ 10000; decide), done (by rw [c1]; rfl) l3 m3⟩⟩
    · exact ⟨_, rfl, _, _, _, _, rfl, rfl, h1', at2 rfl, _, rfl, _, _, _, _, rfl, rfl, h2', at2 rfl, _, _, rfl, rfl, sz (by show y1.length + y2.length ≤ 10000; omega), _, rfl, _, _, _, _, rfl, rfl, h1', at3 rfl, _, rfl, _, _, _, _, rfl, rfl, h2', at3 rfl, l1, l2, _, _, rfl, rfl, s1 _ _ hl1, s1 _ _ hl2, by rw [sizeLine_eq, nat2_len, nat2_len]; omega, fun l3 m3 => ⟨sz (by show 4 ≤ 10000; decide), done (by rw [Bool.eq_false_iff.mpr c1]; rfl) l3 m3⟩⟩
  · have kk0 := Int.emod_nonneg (c / 2) (show (2 : Int) ≠ 0 by decide)
    have kk1 := Int.emod_lt_of_pos (c / 2) (show (0 : Int) < 2 by decide)
    -- the side, its text and its way
    have side : ∃ (d : Nat) (a : Addr) (x : V) (b : Bool) (y : Str) (lw : Addr) (ws : List Nat), c / 2 % 2 = (d : Int) ∧ atI [V.ref a1, V.ref a2] (c / 2 % 2) = some (.ref a) ∧ SqT K H a [x, .bl b, .str y, .ref lw] ∧ H lw = some (.lst (nat2 ws)) ∧ TakesBy (.or p1 p2) y.cps.toList (d :: ws) ∧ y.length ≤ y1.length + y2.length ∧ ws.length < 3000000 := by
      by_cases k : c / 2 % 2 = 0
      · exact ⟨0, a1, x1, _, y1, l1, w1, by omega, by rw [k]; exact at0 rfl, h1, hl1, tb_orL k1, by omega, b1⟩
      · have k' : c / 2 % 2 = 1 := by omega
        exact ⟨1, a2, x2, _, y2, l2, w2, by omega, by rw [k']; exact at1 rfl, h2, hl2, tb_orR k2, by omega, b2⟩
    obtain ⟨d, a, x, bb, y, lw, ws, ed, ea, ha, hlw, hk, hz, hw⟩ := side
    refine ⟨_, rfl, _, rfl, sz (by show 2 ≤ 10000; decide), fun l0 m0 => ?_⟩
    have s0 := same_new (o := .lst [.ref a1, .ref a2]) m0
    refine ⟨_, rfl, _, _, rfl, rfl, ⟨by decide, by decide⟩, _, _, rfl, rfl, (by show (0 : Int) < 2; decide), l0, _, _, .ref a, rfl, rfl, SqL.of upd_same, ea, ?_⟩
    have h10 := TS.of (K := K) s0 _ _ h1
    have h20 := TS.of (K := K) s0 _ _ h2
    refine ⟨_, rfl, _, _, _, _, rfl, rfl, h10, at0 rfl, _, rfl, _, _, _, _, rfl, rfl, h20, at0 rfl, sz (by show 3 ≤ 10000; decide), fun t1 m1 => ?_⟩
    have s1 := s0.trans (same_new (o := .tup [.str "or", x1, x2]) m1)
    have h1' := TS.of (K := K) s1 _ _ h1
    have h2' := TS.of (K := K) s1 _ _ h2
    have ha' := TS.of (K := K) s1 _ _ ha
    have tail : ∀ {b : Bool}, (nul p1 || nul p2) = b → ∀ l5, upd (upd H l0 (.lst [.ref a1, .ref a2])) t1 (.tup [.str "or", x1, x2]) l5 = none → ∀ l6, upd (upd (upd H l0 (.lst [.ref a1, .ref a2])) t1 (.tup [.str "or", x1, x2])) l5 (.lst [.int (c / 2 % 2)]) l6 = none →
        ∀ t2, upd (upd (upd (upd H l0 (.lst [.ref a1, .ref a2])) t1 (.tup [.str "or", x1, x2])) l5 (.lst [.int (c / 2 % 2)])) l6 (.lst ([.int (c / 2 % 2)] ++ nat2 ws)) t2 = none →
        Q (.ref t2) (upd (upd (upd (upd (upd H l0 (.lst [.ref a1, .ref a2])) t1 (.tup [.str "or", x1, x2])) l5 (.lst [.int (c / 2 % 2)])) l6 (.lst ([.int (c / 2 % 2)] ++ nat2 ws))) t2 (.tup [.ref t1, .bl b, .str y, .ref l6])) := fun {b} hb l5 m5 l6 m6 t2 m2 => by
      have s5 := same_new (o := .lst [.int (c / 2 % 2)]) m5
      have s6 := same_new (o := .lst ([.int (c / 2 % 2)] ++ nat2 ws)) m6
      have s56 := s5.trans s6
      have s16 := s1.trans s56
      have e6 : [V.int (c / 2 % 2)] ++ nat2 ws = nat2 (d :: ws) := by rw [ed]; rfl
      exact q t2 (.or p1 p2) y _ (s16.trans (same_new m2)) (E6.mk (ws := d :: ws) m2 ⟨t1, x1, x2, rfl, TS.of (K := K) s56 _ _ (SqT.of upd_same), v1.mono (TS.of s16), v2.mono (TS.of s16)⟩ hb (by rw [← e6]; exact upd_same) ((s1.trans s5).free m6) er hk) (siz_or _ _) rfl (ns_or _ _) hz
    have rest : ∀ {b : Bool}, (nul p1 || nul p2) = b → ∀ l5, (m5 : upd (upd H l0 (.lst [.ref a1, .ref a2])) t1 (.tup [.str "or", x1, x2]) l5 = none) → SqT K (upd (upd (upd H l0 (.lst [.ref a1, .ref a2])) t1 (.tup [.str "or", x1, x2])) l5 (.lst [.int (c / 2 % 2)])) a [x, .bl bb, .str y, .ref lw] ∧
        upd (upd (upd H l0 (.lst [.ref a1, .ref a2])) t1 (.tup [.str "or", x1, x2])) l5 (.lst [.int (c / 2 % 2)]) lw = some (.lst (nat2 ws)) := fun {b} _ l5 m5 => by
      have s5 := s1.trans (same_new (o := .lst [.int (c / 2 % 2)]) m5)
      exact ⟨TS.of (K := K) s5 _ _ ha, s5 _ _ hlw⟩
    refine ⟨_, rfl, _, _, _, _, rfl, rfl, h1', at1 rfl, _, rfl, ?_⟩
    refine ite2 (fun c1 => ?_) (fun c1 => ?_)
    · refine ⟨_, rfl, _, _, _, _, rfl, rfl, ha', at2 rfl, _, rfl, _, _, rfl, rfl, ⟨by decide, by decide⟩, _, _, rfl, rfl, (by show (0 : Int) < 2; decide), sz (by show 1 ≤ 10000; decide), fun l5 m5 => ?_⟩
      have eb : (nul p1 || nul p2) = true := by rw [c1]; rfl
      obtain ⟨r1, r2⟩ := rest eb l5 m5
      exact ⟨_, rfl, _, _, _, _, rfl, rfl, r1, at3 rfl, l5, lw, [.int (c / 2 % 2)], _, rfl, rfl, upd_same, r2, by rw [sizeLine_eq, nat2_len]; show 1 + _ ≤ _; omega, fun l6 m6 => ⟨sz (by show 4 ≤ 10000; decide), tail eb l5 m5 l6 m6⟩⟩
    · refine ⟨_, rfl, _, _, _, _, rfl, rfl, h2', at1 rfl, _, rfl, _, _, _, _, rfl, rfl, ha', at2 rfl, _, rfl, _, _, rfl, rfl, ⟨by decide, by decide⟩, _, _, rfl, rfl, (by show (0 : Int) < 2; decide), sz (by show 1 ≤ 10000; decide), fun l5 m5 => ?_⟩
      have eb : (nul p1 || nul p2) = nul p2 := by rw [Bool.eq_false_iff.mpr c1]; rfl
      obtain ⟨r1, r2⟩ := rest eb l5 m5
      exact ⟨_, rfl, _, _, _, _, rfl, rfl, r1, at3 rfl, l5, lw, [.int (c / 2 % 2)], _, rfl, rfl, upd_same, r2, by rw [sizeLine_eq, nat2_len]; show 1 + _ ≤ _; omega, fun l6 m6 => ⟨sz (by show 4 ≤ 10000; decide), tail eb l5 m5 l6 m6⟩⟩

end
end G1

set_option maxRecDepth 100000
set_option maxHeartbeats 4000000
namespace G1
open PySem PySem.Spec PyProof.Rows L2 Gm
section
variable {P : Program} {w : World} {K : PySem.W.Frag} {mg : Str → Option Value} {base : Heap}
theorem flat_rep (x y : List Nat) (d : Nat) : ∀ k : Nat, ((List.replicate k (x, y)).flatMap fun q => q.1) = (List.replicate k x).flatten ∧ ((List.replicate (k + 1) (x, y)).flatMap fun q => d :: q.2) = ((List.replicate k (x, y)).flatMap fun q => d :: q.2) ++ (d :: y)
  | 0 => ⟨rfl, by simp⟩
  | k + 1 => by
    obtain ⟨h1, h2⟩ := flat_rep x y d k
    refine ⟨?_, ?_⟩
    · rw [List.replicate_succ, List.flatMap_cons, h1, List.replicate_succ, List.flatten_cons]
    · have h3 : (d :: y) ++ ((List.replicate k (x, y)).flatMap fun q => d :: q.2) = ((List.replicate k (x, y)).flatMap fun q => d :: q.2) ++ (d :: y) := by rw [← h2, List.replicate_succ, List.flatMap_cons]
      rw [List.replicate_succ, List.flatMap_cons, h2]
      show (d :: y) ++ (((List.replicate k (x, y)).flatMap fun q => d :: q.2) ++ (d :: y)) = _
      rw [← List.append_assoc, h3]
def sp_round (K : PySem.W.Frag) : Sp := fun vs H Q _ => ∃ (c : Int) (l : V) (h : Int) (D : Addr → Prop) (m1 : Pat × Str), vs = [.int c, l, .int h] ∧ E6 K H D m1 l ∧ m1.2.length ≤ 900 ∧ siz m1.1 ≤ 900 ∧
  ∀ (t : Addr) (p : Pat) (y : Str) (H' : Hp), Same H H' → E6 K H' (fun a => H a = none) (p, y) (.ref t) → siz p ≤ 3 + siz m1.1 → dep p ≤ 2 + dep m1.1 → nums (subs p) = nums (subs m1.1) → y.length ≤ 13 + m1.2.length → Q (.ref t) H'
theorem ok__law_round (T : Txt w K mg) : FnOk P w K mg base CX0 2 T.f__law_round T.fd__law_round ["_law_cell", "_law_part", "_law_head"] (sp_round K) := by
  refine T.F__law_round.ok sc__law_round (fun vs H Q E h => ?_) (fun cdv A outer s H vs Q E hr h => ?_)
  · obtain ⟨c, l, h, D, p1, rfl, _⟩ := h
    rfl
  obtain ⟨c, l, h, D, ⟨p1, y1⟩, rfl, ⟨a1, x1, l1, w1, rfl, h1, u1, hl1, _, n1, k1⟩, z1, g1, q⟩ := h
  have z1' : y1.length ≤ 900 := z1
  have g1' : siz p1 ≤ 900 := g1
  have n1' : nr p1 = true := n1
  refine ⟨_, (C8.pss_cut (ps_if (pt_val (pe_ix ix_tup (pv 1) pe_int (fun _ _ => rfl)))
    (pss_cons (ps_set (i := 3) sc__law_round.nd rfl (.inl rfl) (pe_call (ok__law_sign T) (hr.mono (by decide)) (by rfl) T.m__law_sign T.F__law_sign.kp T.b__law_sign .nil pass0 (pa_cons (pv 2) pa_nil)))
  (pss_one (ps_set (i := 1) sc__law_round.nd rfl (.inl rfl) (pe_tup (pa_cons (pe_tup (pa_cons pe_str (pa_cons (pe_tup (pa_cons pe_str (pa_cons (pv 3) pa_nil))) (pa_cons (pe_ix ix_tup (pv 1) pe_int (fun _ _ => rfl)) pa_nil)))) (pa_cons pe_bl (pa_cons (pe_op op_add_str (pv 3) (pe_ix ix_tup (pv 1) pe_int (fun _ _ => rfl))) (pa_cons (pe_ix ix_tup (pv 1) pe_int (fun _ _ => rfl)) pa_nil))))))))
    pss_nil)
  (pss_cons (ps_set (i := 4) sc__law_round.nd rfl (.inl rfl) (pe_op op_mod (pe_op op_fdiv (pv 0) pe_int) pe_int))
  (C8.pss_cut (ps_if (pt_cmpR op_gt (pe_op op_mul (pv 4) (pe_callB call_len (by rfl) T.n_len PySem.boot_len (pa_cons (pe_ix ix_tup (pv 1) pe_int (fun _ _ => rfl)) pa_nil))) pe_int (nomark _))
    (pss_one (ps_set (i := 4) sc__law_round.nd rfl (.inl rfl) pe_int))
    pss_nil)
  (pss_cons (ps_set (i := 5) sc__law_round.nd rfl (.inl rfl) (pe_lst pa_nil))
  (pss_cons (ps_for PassesOwn.never rfl (pi_range1 (by rfl) T.n_range (pa_cons (pv 4) pa_nil)) (pg_name (i := 6) sc__law_round.nd rfl (.inl rfl))
   (pss_one (ps_set (i := 5) sc__law_round.nd rfl (.inl rfl) (pe_op op_cat (pe_op op_cat (pv 5) (pe_lst (pa_cons (pe_op op_mod (pv 0) pe_int) pa_nil))) (pe_ix ix_tup (pv 1) pe_int (fun _ _ => rfl))))))
  (pss_one (ps_ret (pe_tup (pa_cons (pe_tup (pa_cons (pe_ix ix_list (pe_lst (pa_cons pe_str (pa_cons pe_str pa_nil))) (pe_op op_mod (pv 0) pe_int) (fun _ _ => rfl)) (pa_cons (pe_ix ix_tup (pv 1) pe_int (fun _ _ => rfl)) pa_nil))) (pa_cons pe_bl (pa_cons (pe_op op_mul_str (pe_ix ix_tup (pv 1) pe_int (fun _ _ => rfl)) (pv 4)) (pa_cons (pe_op op_cat (pv 5) (pe_lst (pa_cons (pe_op op_sub pe_int (pe_op op_mod (pv 0) pe_int)) pa_nil))) pa_nil)))))))))))), ?_⟩
  refine ⟨fun σ' H' => ∃ (p2 : Pat) (b : Addr) (x2 : V) (y2 : Str) (lw : Addr) (ws : List Nat) (x3 : Option V), σ' = [some (.int c), some (.ref b), some (.int h), x3, none, none, none] ∧ Same H H' ∧ SqT K H' b [x2, .bl false, .str y2, .ref lw] ∧ H' lw = some (.lst (nat2 ws)) ∧ PAt K H' p2 x2 ∧ nul p2 = false ∧ nr p2 = true ∧ TakesBy p2 y2.cps.toList ws ∧ siz p2 ≤ 2 + siz p1 ∧ dep p2 ≤ 1 + dep p1 ∧
    nums (subs p2) = nums (subs p1) ∧ y2.length ≤ 1 + y1.length, ?_, ?_⟩
  · refine ⟨_, rfl, _, _, _, _, rfl, rfl, h1, at1 rfl, _, rfl, ?_⟩
    refine ite2 (fun c1 => ?_) (fun c1 => ?_)
    · refine ⟨_, rfl, _, rfl, ?_⟩
      refine ⟨_, rfl, sz (by show 2 ≤ 10000; decide), fun t1 m1 => ?_⟩
      have s1 := same_new (o := .tup [.str "sign", .str ⟨#[lsg h]⟩]) m1
      refine ⟨_, rfl, _, _, _, _, rfl, rfl, TS.of (K := K) s1 _ _ h1, at0 rfl, sz (by show 3 ≤ 10000; decide), fun t2 m2 => ?_⟩
      have s2 := s1.trans (same_new (o := .tup [.str "row", .ref t1, x1]) m2)
      refine ⟨_, rfl, _, rfl, _, _, _, _, rfl, rfl, TS.of (K := K) s2 _ _ h1, at2 rfl, _, _, rfl, rfl, sz (by show 1 + y1.length ≤ 10000; omega), _, rfl, _, _, _, _, rfl, rfl, TS.of (K := K) s2 _ _ h1, at3 rfl, sz (by show 4 ≤ 10000; decide), fun t3 m3 => ?_⟩
      have s3 := s2.trans (same_new (o := .tup [.ref t2, .bl false, .str (⟨#[lsg h]⟩ ++ y1), .ref l1]) m3)
      refine ⟨.row (.sign (lsg h)) p1, t3, .ref t2, _, l1, w1, _, rfl, s3, SqT.of upd_same, s3 _ _ hl1, PAt.mono (TS.new m3) ⟨t2, .ref t1, x1, rfl, SqT.of upd_same, ⟨t1, rfl, lsg_lt h, TS.new m2 _ _ (SqT.of upd_same)⟩, u1.mono (TS.of s2)⟩, rfl, ?_, ?_, ?_, ?_, ns_row _ _, ?_⟩
      · show (true && nr p1) = true
        rw [n1']
        rfl
      · rw [str_app]
        exact tb_row (tb_sign _) k1
      · rw [siz_row, show siz (.sign (lsg h)) = 1 from rfl]
        omega
      · have := dep_pos p1
        show 1 + max 1 (dep p1) ≤ _
        omega
      · rw [str_app_len]
        exact Nat.le_refl _
    · have e0 : nul p1 = false := Bool.eq_false_iff.mpr c1
      rw [show nul (p1, y1).1 = false from e0] at h1
      exact ⟨p1, a1, x1, y1, l1, w1, none, rfl, Same.refl _, h1, hl1, u1, e0, n1, k1, by omega, by omega, rfl, by omega⟩
  · rintro σ' H1 ⟨p2, b, x2, y2, lw, ws, x3, rfl, s1, hb, hlw, u2, e2, n2, k2, zz2, d2, m2, l2⟩
    have b2 := tb_len k2 n2 (by omega) (by rw [str_len]; omega)
    have q0 := Int.emod_nonneg (c / 2) (show (4 : Int) ≠ 0 by decide)
    have q1 := Int.emod_lt_of_pos (c / 2) (show (0 : Int) < 4 by decide)
    obtain ⟨k, hk⟩ : ∃ k : Nat, c / 2 % 4 = (k : Int) := ⟨_, (Int.toNat_of_nonneg q0).symm⟩
    have hk4 : k < 4 := by omega
    refine ⟨_, rfl, _, _, rfl, rfl, ⟨by decide, by decide⟩, _, _, rfl, rfl, (by show (0 : Int) < 4; decide), ?_⟩
    refine ⟨fun σ' H' => H' = H1 ∧ ∃ k' : Nat, σ' = [some (.int c), some (.ref b), some (.int h), x3, some (.int (k' : Int)), none, none] ∧ k' ≤ 3 ∧ k' * y2.length ≤ 12 + y2.length, ?_, ?_⟩
    · refine ⟨_, rfl, _, rfl, _, _, _, _, rfl, rfl, hb, at2 rfl, _, _, rfl, ⟨sz (by omega), rfl⟩, _, _, rfl, rfl, .inl ⟨by omega, by omega⟩, _, _, rfl, rfl, _, rfl, ?_⟩
      refine ite2 (fun c1 => ?_) (fun c1 => ?_)
      · exact ⟨rfl, 1, rfl, by decide, by omega⟩
      · refine ⟨rfl, k, (by rw [← hk]; rfl), by omega, ?_⟩
        have c2 : ¬ (12 : Int) < (c / 2 % 4) * ((y2.length : Nat) : Int) := of_decide_eq_false (Bool.eq_false_iff.mpr c1)
        rw [hk] at c2
        have c3 : ((k * y2.length : Nat) : Int) ≤ 12 := by push_cast; omega
        omega
    · rintro σ2 H2 ⟨rfl, k', rfl, hk3, hkl⟩
      refine ⟨Nat.zero_le _, fun lq nq => ?_⟩
      have sq := same_new (o := .lst []) nq
      have dd0 := Int.emod_nonneg c (show (2 : Int) ≠ 0 by decide)
      have dd1 := Int.emod_lt_of_pos c (show (0 : Int) < 2 by decide)
      obtain ⟨d, hd⟩ : ∃ d : Nat, c % 2 = (d : Int) := ⟨_, (Int.toNat_of_nonneg dd0).symm⟩
      have hd1 : d ≤ 1 := by omega
      obtain ⟨p3, z3, dp3, m3, nu3, nr3, mk3, tb3⟩ := tb_rounds (p := p2) hd1
      have nr3' := nr3 e2 n2
      have each : ∀ i, ∀ q ∈ List.replicate i (y2.cps.toList, ws), TakesBy p2 q.1 q.2 := fun i q hq => by
        rw [(List.mem_replicate.mp hq).2]
        exact k2
      have long : ∀ i, i ≤ k' → ((List.replicate i (y2.cps.toList, ws)).flatMap fun q => d :: q.2).length < 3000000 := fun i hi => by
        have f3 := tb_len (tb3 _ (each i)) nr3' (by omega) (by
          have := flat_le (M := y2.length) (L := List.replicate i (y2.cps.toList, ws)) fun q hq => by rw [(List.mem_replicate.mp hq).2]; exact Nat.le_of_eq (str_len _)
          rw [List.length_replicate] at this
          have h3 : i * y2.length ≤ k' * y2.length := Nat.mul_le_mul_right _ hi
          omega)
        rw [List.length_append, List.length_singleton] at f3
        omega
      refine ⟨_, rfl, _, rfl, by omega, by omega, for_range (lo := 0) (n := ((k' : Nat) : Int).toNat) (fun i σ H' => Same H2 H' ∧ ∃ (aq : Addr) (x6 : Option V), σ = [some (.int c), some (.ref b), some (.int h), x3, some (.int (k' : Int)), some (.ref aq), x6] ∧
        H' aq = some (.lst (nat2 ((List.replicate i (y2.cps.toList, ws)).flatMap fun q => d :: q.2)))) ⟨sq, lq, none, rfl, upd_same⟩ ?_ ?_⟩
      · rintro i σ H' hi ⟨s3, aq, x6, rfl, haq⟩
        rw [Int.toNat_natCast] at hi
        have lg := long i (by omega)
        refine ⟨_, rfl, _, rfl, _, _, rfl, rfl, (by show (0 : Int) < 2; decide), sz (by show 1 ≤ 10000; decide), fun l5 m5 => ?_⟩
        have s5 := same_new (o := .lst [.int (c % 2)]) m5
        refine ⟨aq, l5, _, _, rfl, rfl, s5 _ _ haq, upd_same, by rw [sizeLine_eq, nat2_len]; show _ + 1 ≤ _; omega, fun l6 m6 => ?_⟩
        have s6 := s5.trans (same_new (o := .lst (nat2 ((List.replicate i (y2.cps.toList, ws)).flatMap fun q => d :: q.2) ++ [.int (c % 2)])) m6)
        have s36 := s3.trans s6
        have hb6 := TS.of (K := K) s36 _ _ hb
        refine ⟨_, rfl, _, _, _, _, rfl, rfl, hb6, at3 rfl, l6, lw, _, _, rfl, rfl, upd_same, s36 _ _ hlw, by rw [sizeLine_eq, List.length_append, nat2_len, nat2_len]; show _ + 1 + _ ≤ _; omega, fun l7 m7 => ?_⟩
        have s7 := s36.trans (same_new (o := .lst (nat2 ((List.replicate i (y2.cps.toList, ws)).flatMap fun q => d :: q.2) ++ [.int (c % 2)] ++ nat2 ws)) m7)
        refine ⟨s7, l7, some (.int (0 + (i : Int))), rfl, ?_⟩
        have e9 : nat2 ((List.replicate i (y2.cps.toList, ws)).flatMap fun q => d :: q.2) ++ [.int (c % 2)] ++ nat2 ws = nat2 ((List.replicate (i + 1) (y2.cps.toList, ws)).flatMap fun q => d :: q.2) := by
          rw [(flat_rep y2.cps.toList ws d i).2, hd]
          unfold nat2
          simp
        rw [← e9]
        exact upd_same
      · rintro σ H' ⟨s3, aq, x6, rfl, haq⟩
        rw [Int.toNat_natCast] at haq
        have lg := long k' (Nat.le_refl _)
        have hb3 := TS.of (K := K) s3 _ _ hb
        refine ⟨sz (by show 2 ≤ 10000; decide), fun lm m9 => ?_⟩
        have s9 := same_new (o := .lst [.str "more", .str "less"]) m9
        obtain ⟨zK, ez⟩ : ∃ zK : Str, atI [V.str "more", V.str "less"] (c % 2) = some (.str zK) := by
          by_cases e : c % 2 = 0
          · exact ⟨_, by rw [e]; exact at0 rfl⟩
          · have e' : c % 2 = 1 := by omega
            exact ⟨_, by rw [e']; exact at1 rfl⟩
        have hb9 := TS.of (K := K) s9 _ _ hb3
        refine ⟨_, rfl, _, _, rfl, rfl, (by show (0 : Int) < 2; decide), lm, _, _, .str zK, rfl, rfl, SqL.of upd_same, ez, _, rfl, _, _, _, _, rfl, rfl, hb9, at0 rfl, sz (by show 2 ≤ 10000; decide), fun t1 m10 => ?_⟩
        have s10 := s9.trans (same_new (o := .tup [.str zK, x2]) m10)
        have hb10 := TS.of (K := K) s10 _ _ hb3
        refine ⟨_, rfl, _, _, _, _, rfl, rfl, hb10, at2 rfl, _, rfl, y2, k', rfl, rfl, by omega, by omega, ?_⟩
        refine ⟨_, rfl, _, rfl, _, _, rfl, rfl, (by show (0 : Int) < 2; decide), _, _, rfl, rfl, sz (by show 1 ≤ 10000; decide), fun l8 m8 => ?_⟩
        have s8 := s10.trans (same_new (o := .lst [.int (1 - c % 2)]) m8)
        refine ⟨aq, l8, _, _, rfl, rfl, s8 _ _ haq, upd_same, by rw [sizeLine_eq, nat2_len]; show _ + 1 ≤ _; omega, fun l11 m11 => ⟨sz (by show 4 ≤ 10000; decide), fun t12 m12 => ?_⟩⟩
        have s11 := s8.trans (same_new (o := .lst (nat2 ((List.replicate k' (y2.cps.toList, ws)).flatMap fun q => d :: q.2) ++ [.int (1 - c % 2)])) m11)
        have e1d : (1 : Int) - c % 2 = ((1 - d : Nat) : Int) := by omega
        have e11 : nat2 ((List.replicate k' (y2.cps.toList, ws)).flatMap fun q => d :: q.2) ++ [.int (1 - c % 2)] = nat2 (((List.replicate k' (y2.cps.toList, ws)).flatMap fun q => d :: q.2) ++ [1 - d]) := by
          rw [e1d]
          unfold nat2
          simp
        have up : PAt K _ p3 (.ref t1) := mk3 (K := K) (by rw [← hd]; exact ez) (SqT.of (upd_same (H := upd H' lm (.lst [.str "more", .str "less"])) (a := t1) (o := .tup [.str zK, x2]))) (u2.mono (TS.of (s3.trans s10)))
        have s811 : Same (upd (upd H' lm (.lst [.str "more", .str "less"])) t1 (.tup [.str zK, x2])) _ := (same_new (o := .lst [.int (1 - c % 2)]) m8).trans (same_new (o := .lst (nat2 ((List.replicate k' (y2.cps.toList, ws)).flatMap fun q => d :: q.2) ++ [.int (1 - c % 2)])) m11)
        refine q t12 p3 (srep y2 k') _ (s1.trans (s3.trans (s11.trans (same_new m12)))) (E6.mk (ws := ((List.replicate k' (y2.cps.toList, ws)).flatMap fun q => d :: q.2) ++ [1 - d]) m12 (up.mono (TS.of s811)) nu3 (by rw [← e11]; exact upd_same) ((s1.trans (s3.trans s8)).free m11) nr3' ?_) (by show siz p3 ≤ 3 + siz p1; omega) (by show dep p3 ≤ 2 + dep p1; omega) (by rw [m3, m2]) ?_
        · have h3 := tb3 _ (each k')
          rw [(flat_rep y2.cps.toList ws d k').1] at h3
          have e5 : (srep y2 k').cps.toList = (List.replicate k' y2.cps.toList).flatten := by unfold srep; rfl
          rw [e5]
          exact h3
        · rw [srep_len]
          show k' * y2.length ≤ 13 + y1.length
          omega

end
end G1

set_option maxRecDepth 100000
set_option maxHeartbeats 4000000
namespace G1
open PySem PySem.Spec PyProof.Rows L2 Gm
section
variable {P : Program} {w : World} {K : PySem.W.Frag} {mg : Str → Option Value} {base : Heap}
def sp_made (K : PySem.W.Frag) : Sp := fun vs H Q _ => ∃ (a : Addr) (ns : List Int) (h : Int), vs = [.ref a, .int h] ∧ SqL K H a (ns.map V.int) ∧ ns.length ≤ 20 ∧
  ∀ (v : V) (m : Pat × Str) (H' : Hp), Same H H' → E6 K H' (fun _ => True) m v → Made3 ns.length m → Q v H'
theorem push_mono {H H2 : Hp} {lp : Addr} {ps : List (Pat × Str)} {vs : List V} (s : Same H H2) (hp : Paired (E6 K H (fun a => a ≠ lp)) ps vs) : Paired (E6 K H2 (fun a => a ≠ lp)) ps vs :=
  Paired.mapP hp fun _ _ z => z.mono (Kept.of s) (TS.of s) (fun _ h => h)
theorem mut_mono {H : Hp} {lp : Addr} {xs ys : List V} (h : H lp = some (.lst xs)) {m : Pat × Str} {v : V} (z : E6 K H (fun a => a ≠ lp) m v) : E6 K (upd H lp (.lst ys)) (fun a => a ≠ lp) m v := z.mono (Kept.upd fun _ h => h) (TS.lst h) (fun _ h => h)
theorem pile_push6 {H' H2 : Hp} {lp : Addr} {ps : List (Pat × Str)} {vs : List V} {p : Pat × Str} {v : V} (h : H2 lp = some (.lst vs)) (hp : Paired (E6 K H2 (fun a => a ≠ lp)) ps vs) (u : E6 K H2 (fun a => a ≠ lp) p v) :
    Paired (E6 K (upd H2 lp (.lst (vs ++ [v]))) (fun a => a ≠ lp)) (ps ++ [p]) (vs ++ [v]) :=
  Paired.snoc (Paired.mapP hp fun _ _ z => mut_mono h z) (mut_mono h u)
theorem E6.off {H0 H : Hp} {lp : Addr} {o : HO} (h : H0 lp = some o) {m : Pat × Str} {v : V} (z : E6 K H (fun a => H0 a = none) m v) : E6 K H (fun a => a ≠ lp) m v := z.mono (Kept.of (Same.refl _)) (TS.of (Same.refl _)) fun a ha e => by
  rw [e, h] at ha
  cases ha
def mInv6 (K : PySem.W.Frag) (H : Hp) (a lp : Addr) (h : Int) (i : Nat) (σ : L2.St) (H' : Hp) : Prop :=
  ∃ (num : Int) (ps : List (Pat × Str)) (vs : List V) (x4 x5 x6 x7 : Option V), σ = [some (.ref a), some (.int h), some (.ref lp), some (.int num), x4, x5, x6, x7] ∧ Same H H' ∧
    H' lp = some (.lst vs) ∧ Paired (E6 K H' (fun a => a ≠ lp)) ps vs ∧ Pile i num ps
theorem ok__law_made (T : Txt w K mg) : FnOk P w K mg base CX0 3 T.f__law_made T.fd__law_made ["_law_cells", "_law_head"] (sp_made K) := by
  refine T.F__law_made.ok sc__law_made (fun vs H Q E h => ?_) (fun cdv A outer s H vs Q E hr h => ?_)
  · obtain ⟨a, ns, h, rfl, _⟩ := h
    rfl
  obtain ⟨a, ns, h, rfl, ha, h40, q⟩ := h
  refine ⟨_, (pss_cons (ps_set (i := 2) sc__law_made.nd rfl (.inl rfl) (pe_lst pa_nil))
  (pss_cons (ps_set (i := 3) sc__law_made.nd rfl (.inl rfl) pe_int)
  (pss_cons (ps_for PassesOwn.never rfl (pi_list (pv 0)) (pg_name (i := 4) sc__law_made.nd rfl (.inl rfl))
   (pss_cons (ps_set (i := 5) sc__law_made.nd rfl (.inl rfl) (pe_op op_mod (pv 4) pe_int))
  (pss_one (ps_if (PW.pt (pw_or (pt_cmpR op_lt (pv 5) pe_int (nomark _)) (pw_or (pt_cmpR op_eq (pe_callB call_len_seq (by rfl) T.n_len PySem.boot_len (pa_cons (pv 2) pa_nil)) pe_int (nomark _)) (pw_or1 (PW.pt (pw_and (pt_cmpR op_lt (pv 5) pe_int (nomark _)) (pw_and1 (pt_cmpR op_lt (pe_callB call_len_seq (by rfl) T.n_len PySem.boot_len (pa_cons (pv 2) pa_nil)) pe_int (nomark _)))))))))
    (pss_one (ps_expr (pe_bm PySem.F.plainAttrs_list PySem.F.slot_list_append PySem.F.type_list_append mt_append (pv 2) (pa_cons (pe_call (ok__law_leaf T) (hr.mono (by decide)) (by rfl) T.m__law_leaf T.F__law_leaf.kp T.b__law_leaf .nil pass0 (pa_cons (pe_op op_fdiv (pv 4) pe_int) (pa_cons (pv 1) pa_nil))) pa_nil))))
    (pss_one (ps_if (pt_cmpR op_lt (pv 5) pe_int (nomark _))
    (pss_cons (ps_set (i := 6) sc__law_made.nd rfl (.inl rfl) (pe_bm0 PySem.F.plainAttrs_list PySem.F.slot_list_pop PySem.F.type_list_pop mt_pop (pv 2)))
  (pss_one (ps_expr (pe_bm PySem.F.plainAttrs_list PySem.F.slot_list_append PySem.F.type_list_append mt_append (pv 2) (pa_cons (pe_call (ok__law_two T) (hr.mono (by decide)) (by rfl) T.m__law_two T.F__law_two.kp T.b__law_two .nil pass0 (pa_cons (pe_op op_fdiv (pv 4) pe_int) (pa_cons (pe_bm0 PySem.F.plainAttrs_list PySem.F.slot_list_pop PySem.F.type_list_pop mt_pop (pv 2)) (pa_cons (pv 6) pa_nil)))) pa_nil)))))
    (pss_one (ps_if (pt_cmpR op_lt (pv 5) pe_int (nomark _))
    (pss_one (ps_expr (pe_bm PySem.F.plainAttrs_list PySem.F.slot_list_append PySem.F.type_list_append mt_append (pv 2) (pa_cons (pe_call (ok__law_round T) (hr.mono (by decide)) (by rfl) T.m__law_round T.F__law_round.kp T.b__law_round .nil pass0 (pa_cons (pe_op op_fdiv (pv 4) pe_int) (pa_cons (pe_bm0 PySem.F.plainAttrs_list PySem.F.slot_list_pop PySem.F.type_list_pop mt_pop (pv 2)) (pa_cons (pv 1) pa_nil)))) pa_nil))))
    (pss_cons (ps_set (i := 3) sc__law_made.nd rfl (.inl rfl) (pe_op op_add (pe_op op_add (pv 3) pe_int) (pe_op op_mod (pv 1) pe_int)))
  (pss_cons (ps_set (i := 7) sc__law_made.nd rfl (.inl rfl) (pe_bm0 PySem.F.plainAttrs_list PySem.F.slot_list_pop PySem.F.type_list_pop mt_pop (pv 2)))
  (pss_one (ps_expr (pe_bm PySem.F.plainAttrs_list PySem.F.slot_list_append PySem.F.type_list_append mt_append (pv 2) (pa_cons (pe_tup (pa_cons (pe_tup (pa_cons pe_str (pa_cons (pv 3) (pa_cons (pe_ix ix_tup (pv 7) pe_int (fun _ _ => rfl)) pa_nil)))) (pa_cons (pe_ix ix_tup (pv 7) pe_int (fun _ _ => rfl)) (pa_cons (pe_ix ix_tup (pv 7) pe_int (fun _ _ => rfl)) (pa_cons (pe_ix ix_tup (pv 7) pe_int (fun _ _ => rfl)) pa_nil))))) pa_nil))))))))))))))
  (pss_cons (ps_while PassesOwn.never (pt_cmpR op_gt (pe_callB call_len_seq (by rfl) T.n_len PySem.boot_len (pa_cons (pv 2) pa_nil)) pe_int (nomark _))
   (pss_cons (ps_set (i := 6) sc__law_made.nd rfl (.inl rfl) (pe_bm0 PySem.F.plainAttrs_list PySem.F.slot_list_pop PySem.F.type_list_pop mt_pop (pv 2)))
  (pss_one (ps_expr (pe_bm PySem.F.plainAttrs_list PySem.F.slot_list_append PySem.F.type_list_append mt_append (pv 2) (pa_cons (pe_call (ok__law_two T) (hr.mono (by decide)) (by rfl) T.m__law_two T.F__law_two.kp T.b__law_two .nil pass0 (pa_cons pe_int (pa_cons (pe_bm0 PySem.F.plainAttrs_list PySem.F.slot_list_pop PySem.F.type_list_pop mt_pop (pv 2)) (pa_cons (pv 6) pa_nil)))) pa_nil))))))
  (pss_cons (ps_if (pt_cmpR op_eq (pe_callB call_len_seq (by rfl) T.n_len PySem.boot_len (pa_cons (pv 2) pa_nil)) pe_int (nomark _))
    (pss_one (ps_ret (pe_tup (pa_cons (pe_tup (pa_cons pe_str pa_nil)) (pa_cons pe_bl (pa_cons pe_str (pa_cons (pe_lst pa_nil) pa_nil)))))))
    pss_nil)
  (pss_one (ps_ret (pe_ix ix_list (pv 2) pe_int (fun _ _ => rfl))))))))), ?_⟩
  refine ⟨Nat.zero_le _, fun lp np => ?_⟩
  refine ⟨_, rfl, a, rfl, ⟨_, (same_new np).seq ha⟩, for_list (K := K) (a := a) (xs := ns.map V.int) (fun i => mInv6 K H a lp h i)
    ⟨0, [], [], none, none, none, none, rfl, same_new np, upd_same, .nil, Pile.nil⟩ (fun i σ H' _ hI => ?_) ?_ ?_⟩
  · obtain ⟨_, _, _, _, _, _, _, _, s1, _⟩ := hI
    exact s1.seq ha
  · rintro i y σ H1 hi ⟨num, ps, vs, x4, x5, x6, x7, rfl, s1, hp, pv, pl⟩
    have hi40 : i < 20 := by
      have q1 := (List.getElem?_eq_some_iff.mp hi).1
      rw [List.length_map] at q1
      omega
    obtain ⟨c, rfl⟩ : ∃ c, y = V.int c := by
      rw [List.getElem?_map] at hi
      cases e : ns[i]? with
      | none =>
        rw [e] at hi
        cases hi
      | some u =>
        rw [e] at hi
        exact ⟨u, (Option.some.inj hi).symm⟩
    have lpv : ps.length = vs.length := Paired.length pv
    have few := (pl.len (by omega)).1
    have mem := pile_mem pl (by omega)
    refine ⟨_, rfl, _, _, rfl, rfl, (by show (0 : Int) < 10; decide), ?_⟩
    refine g_nx ?_
    refine if_tst (b := decide (c % 10 < 4) || (decide (V.int ((vs.length : Nat) : Int) = V.int 0) || (decide (c % 10 < 7) && decide (((vs.length : Nat) : Int) < 2)))) (tst_or (fun Q q => ⟨_, rfl, _, _, rfl, rfl, _, rfl, q⟩) (tst_or (fun Q q => ⟨_, rfl, lp, _, rfl, .inl (SqL.of hp), rfl, _, rfl, q⟩)
      (tst_and (fun Q q => ⟨_, rfl, _, _, rfl, rfl, _, rfl, q⟩) (fun Q q => ⟨_, rfl, lp, _, rfl, .inl (SqL.of hp), _, _, rfl, rfl, _, rfl, q⟩)))) (fun c1 => ?_) (fun c1 => ?_)
    · -- a leaf
      refine ⟨_, rfl, .inl ⟨rfl, _, SqL.of hp⟩, _, rfl, _, _, rfl, rfl, ⟨by decide, by decide⟩, _, rfl, _, _, rfl, fun t p y H2 s2 u z1 z2 z3 z4 => ?_⟩
      have hp2 := s2 _ _ hp
      have pv2 := push_mono s2 pv
      have u := E6.off hp u
      refine ⟨lp, vs, .ref t, rfl, rfl, hp2, szl (by omega), ?_⟩
      exact ⟨num, ps ++ [(p, y)], vs ++ [.ref t], _, _, _, _, rfl, Same.mut (s1.trans s2) np, upd_same, pile_push6 (H' := H2) hp2 pv2 u, pl.leaf z1 z2 z3 z4⟩
    rw [Bool.or_eq_false_iff, Bool.or_eq_false_iff] at c1
    obtain ⟨ca, cb, cc⟩ := c1
    have n0 : vs.length ≠ 0 := fun z => of_decide_eq_false cb (by rw [z]; rfl)
    refine ⟨_, rfl, _, _, rfl, rfl, _, rfl, ?_⟩
    refine ite2 (fun c2 => ?_) (fun c2 => ?_)
    · -- two together
      have n2 : 2 ≤ vs.length := by
        rw [c2, Bool.true_and] at cc
        have := of_decide_eq_false cc
        omega
      obtain ⟨psA, pR, vsA, vR, rfl, rfl, pvA, uR⟩ := Paired.last pv (by omega)
      have lA : psA.length = vsA.length := Paired.length pvA
      rw [List.length_append, List.length_singleton] at n2
      obtain ⟨psB, pL, vsB, vL, rfl, rfl, pvB, uL⟩ := Paired.last pvA (by omega)
      refine ⟨_, rfl, .inl ⟨rfl, _, SqL.of hp⟩, lp, _, vR, rfl, rfl, hp, last_get _ _, ?_⟩
      rw [List.dropLast_concat]
      have hp1 : upd H1 lp (.lst (vsB ++ [vL])) lp = some (.lst (vsB ++ [vL])) := upd_same
      have hp2' : upd (upd H1 lp (.lst (vsB ++ [vL]))) lp (.lst vsB) lp = some (.lst vsB) := upd_same
      refine ⟨_, rfl, .inl ⟨rfl, _, SqL.of hp1⟩, _, rfl, _, _, rfl, rfl, ⟨by decide, by decide⟩, _, rfl, .inl ⟨rfl, _, SqL.of hp1⟩, lp, _, vL, rfl, rfl, hp1, last_get _ _, ?_⟩
      rw [List.dropLast_concat]
      obtain ⟨sL, gL⟩ := mem pL (by simp)
      obtain ⟨sR, gR⟩ := mem pR (by simp)
      refine ⟨_, rfl, _, vL, vR, (fun a => a ≠ lp), pL, pR, rfl, mut_mono hp1 (mut_mono hp uL), mut_mono hp1 (mut_mono hp uR), by omega, by omega, by omega, by omega, fun t p y H2 s2 u z1 z2 z3 z4 => ?_⟩
      have hp2 := s2 _ _ hp2'
      have u := E6.off hp2' u
      have pv2 := push_mono s2 (Paired.mapP pvB fun _ _ (z : E6 K H1 (fun a => a ≠ lp) _ _) => mut_mono (ys := vsB) hp1 (mut_mono (ys := vsB ++ [vL]) hp z))
      simp only [List.length_append, List.length_singleton] at lpv lA n2 few
      refine ⟨lp, vsB, .ref t, rfl, rfl, hp2, szl (by omega), ?_⟩
      exact ⟨num, psB ++ [(p, y)], vsB ++ [.ref t], _, _, _, _, rfl, Same.mut ((Same.mut (Same.mut s1 np) np).trans s2) np, upd_same, pile_push6 (H' := H2) hp2 pv2 u, pl.two (Nat.le_succ _) z1 z2 z3 z4⟩
    refine ⟨_, rfl, _, _, rfl, rfl, _, rfl, ?_⟩
    obtain ⟨psA, pR, vsA, vR, rfl, rfl, pvA, uR⟩ := Paired.last pv (by omega)
    have hp1 : upd H1 lp (.lst vsA) lp = some (.lst vsA) := upd_same
    obtain ⟨sR, gR⟩ := mem pR (by simp)
    simp only [List.length_append, List.length_singleton] at lpv few
    refine ite2 (fun c3 => ?_) (fun c3 => ?_)
    · -- a round
      refine ⟨_, rfl, .inl ⟨rfl, _, SqL.of hp⟩, _, rfl, _, _, rfl, rfl, ⟨by decide, by decide⟩, _, rfl, .inl ⟨rfl, _, SqL.of hp⟩, lp, _, vR, rfl, rfl, hp, last_get _ _, ?_⟩
      rw [List.dropLast_concat]
      refine ⟨_, rfl, _, vR, h, (fun a => a ≠ lp), pR, rfl, mut_mono hp uR, by omega, by omega, fun t p y H2 s2 u z1 z2 z3 z4 => ?_⟩
      have hp2 := s2 _ _ hp1
      have u := E6.off hp1 u
      have pv2 := push_mono s2 (Paired.mapP pvA fun _ _ (z : E6 K H1 (fun a => a ≠ lp) _ _) => mut_mono (ys := vsA) hp z)
      refine ⟨lp, vsA, .ref t, rfl, rfl, hp2, szl (by omega), ?_⟩
      exact ⟨num, psA ++ [(p, y)], vsA ++ [.ref t], _, _, _, _, rfl, Same.mut ((Same.mut s1 np).trans s2) np, upd_same, pile_push6 (H' := H2) hp2 pv2 u, pl.round z1 z2 z3 z4⟩
    · -- a group
      have w0 := Int.emod_nonneg h (show (900 : Int) ≠ 0 by decide)
      have w1 := Int.emod_lt_of_pos h (show (0 : Int) < 900 by decide)
      have pg := pl.group (k := 1 + h % 900) (by omega) (by omega)
      refine ⟨_, rfl, _, _, rfl, rfl, _, rfl, _, _, rfl, rfl, (by show (0 : Int) < 900; decide), _, _, rfl, rfl, ?_⟩
      have en : num + 1 + h % 900 = num + (1 + h % 900) := by omega
      refine ⟨_, rfl, .inl ⟨rfl, _, SqL.of hp⟩, lp, _, vR, rfl, rfl, hp, last_get _ _, ?_⟩
      rw [List.dropLast_concat]
      obtain ⟨aR, xR, lR, wR, rfl, hR1, uX, hlR, dlR, nX, kX⟩ := mut_mono (ys := vsA) hp uR
      refine ⟨_, rfl, .inl ⟨rfl, _, SqL.of hp1⟩, _, rfl, _, rfl, _, _, _, _, rfl, rfl, hR1, at0 rfl, sz (by show 3 ≤ 10000; decide), fun t2 n2 => ?_⟩
      have s2 := same_new (o := .tup [.str "group", .int (num + 1 + h % 900), xR]) n2
      have hR2 := TS.of (K := K) s2 _ _ hR1
      refine ⟨_, rfl, _, _, _, _, rfl, rfl, hR2, at1 rfl, _, rfl, _, _, _, _, rfl, rfl, hR2, at2 rfl, _, rfl, _, _, _, _, rfl, rfl, hR2, at3 rfl, sz (by show 4 ≤ 10000; decide), fun t3 n3 => ?_⟩
      have s3 := s2.trans (same_new (o := .tup [.ref t2, .bl (nul pR.1), .str pR.2, .ref lR]) n3)
      have hn : 0 ≤ num := pl.n0
      have ug : PAt K (upd (upd H1 lp (.lst vsA)) t2 (.tup [.str "group", .int (num + 1 + h % 900), xR])) (.group (num + (1 + h % 900)) pR.1) (.ref t2) :=
        ⟨t2, xR, rfl, by omega, by rw [← en]; exact SqT.of upd_same, uX.mono (TS.of s2)⟩
      have u : E6 K (upd (upd (upd H1 lp (.lst vsA)) t2 (.tup [.str "group", .int (num + 1 + h % 900), xR])) t3 (.tup [.ref t2, .bl (nul pR.1), .str pR.2, .ref lR])) (fun a => a ≠ lp) (.group (num + (1 + h % 900)) pR.1, pR.2) (.ref t3) :=
        E6.mk n3 ug rfl (s2 _ _ hlR) dlR nX (tb_group kX)
      have hp2 := s3 _ _ hp1
      have pv2 := push_mono s3 (Paired.mapP pvA fun _ _ (z : E6 K H1 (fun a => a ≠ lp) _ _) => mut_mono (ys := vsA) hp z)
      refine ⟨lp, vsA, .ref t3, rfl, rfl, hp2, szl (by omega), ?_⟩
      refine ⟨num + (1 + h % 900), psA ++ [(.group (num + (1 + h % 900)) pR.1, pR.2)], vsA ++ [.ref t3], some (.int c), some (.int (c % 10)), x6, some (.ref aR), ?_, Same.mut ((Same.mut s1 np).trans s3) np, upd_same, pile_push6 (H' := H1) hp2 pv2 u, pg⟩
      rw [← en]
      rfl
  -- what is left on the pile
  rintro σ H1 ⟨num, ps, vs, x4, x5, x6, x7, rfl, s1, hp, pv, pl⟩
  rw [List.length_map] at pl
  refine ⟨fun m σ' H' => ∃ (ps : List (Pat × Str)) (vs : List V) (x6 : Option V), σ' = [some (.ref a), some (.int h), some (.ref lp), some (.int num), x4, x5, x6, x7] ∧ Same H H' ∧
    H' lp = some (.lst vs) ∧ Paired (E6 K H' (fun a => a ≠ lp)) ps vs ∧ Pile ns.length num ps ∧ m = vs.length, ⟨_, ps, vs, x6, rfl, s1, hp, pv, pl, rfl⟩, ?_⟩
  clear hp pv pl s1 ps vs
  rintro m σ' H2 ⟨ps, vs, x6', rfl, s1, hp, pv, pl, rfl⟩
  have lpv : ps.length = vs.length := Paired.length pv
  have few := (pl.len (by omega)).1
  have mem := pile_mem pl (by omega)
  refine ⟨_, rfl, lp, _, rfl, .inl (SqL.of hp), _, _, rfl, rfl, _, rfl, ?_⟩
  refine ite2 (fun c1 => ?_) (fun c1 => ?_)
  · have n2 : 1 < vs.length := by
      have : (1 : Int) < ((vs.length : Nat) : Int) := of_decide_eq_true c1
      omega
    obtain ⟨psA, pR, vsA, vR, rfl, rfl, pvA, uR⟩ := Paired.last pv (by omega)
    have lA : psA.length = vsA.length := Paired.length pvA
    rw [List.length_append, List.length_singleton] at n2
    obtain ⟨psB, pL, vsB, vL, rfl, rfl, pvB, uL⟩ := Paired.last pvA (by omega)
    refine ⟨fun σ' H' => ∃ (ps : List (Pat × Str)) (vs : List V) (x6 : Option V), σ' = [some (.ref a), some (.int h), some (.ref lp), some (.int num), x4, x5, x6, x7] ∧ Same H H' ∧
      H' lp = some (.lst vs) ∧ Paired (E6 K H' (fun a => a ≠ lp)) ps vs ∧ Pile ns.length num ps ∧ vs.length = vsB.length + 1, fun σ' H' ⟨ps, vs, x6, e1, e2, e3, e4, e5, e7⟩ => ⟨vs.length, ?_, ps, vs, x6, e1, e2, e3, e4, e5, rfl⟩, ?_⟩
    · simp only [List.length_append, List.length_singleton]
      omega
    refine ⟨_, rfl, .inl ⟨rfl, _, SqL.of hp⟩, lp, _, vR, rfl, rfl, hp, last_get _ _, ?_⟩
    rw [List.dropLast_concat]
    have hp1 : upd H2 lp (.lst (vsB ++ [vL])) lp = some (.lst (vsB ++ [vL])) := upd_same
    have hp2' : upd (upd H2 lp (.lst (vsB ++ [vL]))) lp (.lst vsB) lp = some (.lst vsB) := upd_same
    refine ⟨_, rfl, .inl ⟨rfl, _, SqL.of hp1⟩, _, rfl, .inl ⟨rfl, _, SqL.of hp1⟩, lp, _, vL, rfl, rfl, hp1, last_get _ _, ?_⟩
    rw [List.dropLast_concat]
    obtain ⟨sL, gL⟩ := mem pL (by simp)
    obtain ⟨sR, gR⟩ := mem pR (by simp)
    refine ⟨_, rfl, _, vL, vR, (fun a => a ≠ lp), pL, pR, rfl, mut_mono hp1 (mut_mono hp uL), mut_mono hp1 (mut_mono hp uR), by omega, by omega, by omega, by omega, fun t p y H3 s2 u z1 z2 z3 z4 => ?_⟩
    have hp2 := s2 _ _ hp2'
    have u := E6.off hp2' u
    have pv2 := push_mono s2 (Paired.mapP pvB fun _ _ (z : E6 K H2 (fun a => a ≠ lp) _ _) => mut_mono (ys := vsB) hp1 (mut_mono (ys := vsB ++ [vL]) hp z))
    simp only [List.length_append, List.length_singleton] at lpv lA n2 few
    refine ⟨lp, vsB, .ref t, rfl, rfl, hp2, szl (by omega), ?_⟩
    exact ⟨psB ++ [(p, y)], vsB ++ [.ref t], _, rfl, Same.mut ((Same.mut (Same.mut s1 np) np).trans s2) np, upd_same, pile_push6 (H' := H2) hp2 pv2 u, pl.two (Nat.le_refl _) z1 z2 z3 z4, by rw [List.length_append, List.length_singleton]⟩
  refine ⟨_, rfl, lp, _, rfl, .inl (SqL.of hp), rfl, _, rfl, ?_⟩
  refine ite2 (fun c2 => ?_) (fun c2 => ?_)
  · refine ⟨sz (by show 1 ≤ 10000; decide), fun t1 m1 => ⟨Nat.zero_le _, fun l1 n1 => ⟨sz (by show 4 ≤ 10000; decide), fun t2 n2 => ?_⟩⟩⟩
    have s2 := same_new (o := .tup [.str "none"]) m1
    have s3 := same_new (o := .lst []) n1
    exact q (.ref t2) (.none, "") _ (s1.trans (s2.trans (s3.trans (same_new n2)))) (E6.mk (ws := []) n2 ⟨t1, rfl, TS.of (K := K) s3 _ _ (SqT.of upd_same)⟩ rfl upd_same trivial rfl tb_none) ⟨(show 1 ≤ 1 + _ by omega), (show 1 ≤ 1 + _ by omega), Nat.zero_le _, List.nodup_nil, fun k hk => by cases hk⟩
  · have n1 : vs.length = 1 := by
      have h1 : ¬ (1 : Int) < ((vs.length : Nat) : Int) := of_decide_eq_false (Bool.eq_false_iff.mpr c1)
      have h2 : vs.length ≠ 0 := fun z => c2 (by rw [z]; rfl)
      omega
    obtain ⟨ps', p, vs', v, rfl, rfl, pv', u⟩ := Paired.last pv (by omega)
    rw [List.length_append, List.length_singleton] at n1
    have e' : vs' = [] := List.length_eq_zero_iff.mp (by omega)
    subst e'
    rw [List.nil_append] at hp
    refine ⟨_, rfl, lp, _, _, _, rfl, rfl, SqL.of hp, at0 rfl, ?_⟩
    have a1 := pl.zs
    have a2 := pl.ds
    have a3 := pl.ls
    have a4 := pl.nd
    have a5 := pl.rg
    have a6 := pl.n1
    rw [sumB_snoc] at a1 a2 a3
    rw [List.length_append, List.length_singleton] at a1
    rw [gn3_snoc] at a4 a5
    exact q v p H2 s1 (u.mono (Kept.of (Same.refl _)) (TS.of (Same.refl _)) fun _ _ => trivial) ⟨by omega, by omega, by omega, (List.nodup_append.mp a4).2.1, fun k hk => by have := a5 k (List.mem_append_right _ hk); exact ⟨this.1, by omega⟩⟩

end
end G1

set_option maxRecDepth 100000
set_option maxHeartbeats 4000000
namespace G1
open PySem PySem.Spec PyProof.Rows L2 Gm
section
variable {P : Program} {w : World} {K : PySem.W.Frag} {mg : Str → Option Value} {base : Heap}
def sp_changed (K : PySem.W.Frag) : Sp := fun vs H Q _ => ∃ (z : Str) (c h : Int), vs = [.str z, .int c, .int h] ∧ z.length ≤ 4000 ∧ ∀ (y : Str) (H' : Hp), Same H H' → y.length ≤ 2 * z.length + 1 → Q (.str y) H'
theorem ok__law_changed (T : Txt w K mg) : FnOk P w K mg base CX0 2 T.f__law_changed T.fd__law_changed ["_law_text", "_law_cell", "_law_head"] (sp_changed K) := by
  refine T.F__law_changed.ok sc__law_changed (fun vs H Q E h => ?_) (fun cdv A outer s H vs Q E hr h => ?_)
  · obtain ⟨z, c, h, rfl, _⟩ := h
    rfl
  obtain ⟨z, c, h, rfl, hz, q⟩ := h
  refine ⟨_, (pss_cons (ps_set (i := 3) sc__law_changed.nd rfl (.inl rfl) (pe_op op_mod (pe_op op_fdiv (pv 1) pe_int) (pe_op op_add (pe_callB call_len (by rfl) T.n_len PySem.boot_len (pa_cons (pv 0) pa_nil)) pe_int)))
  (pss_cons (ps_set (i := 4) sc__law_changed.nd rfl (.inl rfl) (pe_call (ok__law_sign T) (hr.mono (by decide)) (by rfl) T.m__law_sign T.F__law_sign.kp T.b__law_sign .nil pass0 (pa_cons (pe_ix ix_list (pe_lst (pa_cons (pv 2) (pa_cons (pe_op op_fdiv (pv 2) pe_int) pa_nil))) (pe_op op_mod (pe_op op_fdiv (pv 1) pe_int) pe_int) (fun _ _ => rfl)) pa_nil)))
  (pss_one (ps_ret (pe_ix ix_list (pe_lst (pa_cons (pe_op op_add_str (pe_op op_add_str (pe_slice sl_str (pv 0) po_none (po_some (pv 3))) (pv 4)) (pe_slice sl_str (pv 0) (po_some (pv 3)) po_none)) (pa_cons (pe_op op_add_str (pe_slice sl_str (pv 0) po_none (po_some (pv 3))) (pe_slice sl_str (pv 0) (po_some (pe_op op_add (pv 3) pe_int)) po_none)) (pa_cons (pe_op op_add_str (pe_op op_add_str (pe_slice sl_str (pv 0) po_none (po_some (pv 3))) (pv 4)) (pe_slice sl_str (pv 0) (po_some (pe_op op_add (pv 3) pe_int)) po_none)) pa_nil)))) (pe_op op_mod (pv 1) pe_int) (fun _ _ => rfl)))))), ?_⟩
  refine ⟨_, rfl, _, _, rfl, rfl, ⟨by decide, by decide⟩, _, rfl, _, _, rfl, ⟨sz (by omega), rfl⟩, _, _, rfl, rfl, _, _, rfl, rfl, (by show (0 : Int) < ((z.length : Nat) : Int) + 1; omega), ?_⟩
  have k0 := Int.emod_nonneg (c / 3) (show (2 : Int) ≠ 0 by decide)
  have k1 := Int.emod_lt_of_pos (c / 3) (show (0 : Int) < 2 by decide)
  obtain ⟨e, he⟩ := pickI (xs := [h, h / 95]) k0 k1
  refine ⟨_, rfl, _, rfl, _, _, rfl, rfl, ⟨by decide, by decide⟩, sz (by show 2 ≤ 10000; decide), fun l nl => ?_⟩
  have sl := same_new (o := .lst [.int h, .int (h / 95)]) nl
  refine ⟨_, rfl, _, _, rfl, rfl, ⟨by decide, by decide⟩, _, _, rfl, rfl, (by show (0 : Int) < 2; decide), l, _, _, .int e, rfl, rfl, SqL.of upd_same, he, _, rfl, ?_⟩
  obtain ⟨at0, hat⟩ : ∃ i : Int, i = c / 6 % (((z.length : Nat) : Int) + 1) := ⟨_, rfl⟩
  have c1 := cutS_length z none (some at0)
  have c2 := cutS_length z (some at0) none
  have c3 := cutS_length z (some (at0 + 1)) none
  rw [hat] at c1 c2 c3
  have one : (⟨#[lsg e]⟩ : Str).length = 1 := rfl
  refine ⟨_, rfl, _, rfl, _, rfl, _, rfl, sz (by omega), _, rfl, _, _, rfl, rfl, sz (by rw [one]; omega), _, rfl, _, rfl, _, rfl, _, rfl, sz (by omega), _, _, rfl, rfl, sz (by rw [str_app_len, one]; omega), ?_⟩
  refine ⟨_, rfl, _, rfl, _, rfl, _, rfl, sz (by omega), _, rfl, _, rfl, _, _, rfl, rfl, _, rfl, _, rfl, sz (by omega), _, _, rfl, rfl, sz (by omega), ?_⟩
  refine ⟨_, rfl, _, rfl, _, rfl, _, rfl, sz (by omega), _, rfl, _, _, rfl, rfl, sz (by rw [one]; omega), _, rfl, _, rfl, _, _, rfl, rfl, _, rfl, _, rfl, sz (by omega), _, _, rfl, rfl, sz (by rw [str_app_len, one]; omega), ?_⟩
  refine ⟨sz (by show 3 ≤ 10000; decide), fun l2 n2 => ?_⟩
  have w0 := Int.emod_nonneg c (show (3 : Int) ≠ 0 by decide)
  have w1 := Int.emod_lt_of_pos c (show (0 : Int) < 3 by decide)
  obtain ⟨y, hy, ey⟩ := pickS (xs := [cutS z none (some at0) ++ ⟨#[lsg e]⟩ ++ cutS z (some at0) none, cutS z none (some at0) ++ cutS z (some (at0 + 1)) none, cutS z none (some at0) ++ ⟨#[lsg e]⟩ ++ cutS z (some (at0 + 1)) none]) w0 w1
  subst hat
  refine ⟨_, rfl, _, _, rfl, rfl, (by show (0 : Int) < 3; decide), l2, _, _, .str y, rfl, rfl, SqL.of upd_same, ey, q y _ (sl.trans (same_new n2)) ?_⟩
  rcases List.mem_cons.mp hy with rfl | hy
  · rw [str_app_len, str_app_len, one]
    omega
  rcases List.mem_cons.mp hy with rfl | hy
  · rw [str_app_len]
    omega
  obtain rfl := List.mem_singleton.mp hy
  rw [str_app_len, str_app_len, one]
  omega

end
end G1

set_option maxRecDepth 100000
set_option maxHeartbeats 4000000
namespace G1
open PySem PySem.Spec PyProof.Rows L2 Gm
section
variable {P : Program} {w : World} {K : PySem.W.Frag} {mg : Str → Option Value} {base : Heap}
/-- all states of a walk, the first and the end with them -/
inductive Tr (z : List Nat) : Sta → List Nat → List Sta → Prop where
  | nil : Tr z (endS z) [] [endS z]
  | one {s a : Sta} {w : List Nat} {L : List Sta} (h : step z s = [a]) (r : Tr z a w L) : Tr z s w (s :: L)
  | left {s a b : Sta} {w : List Nat} {L : List Sta} (h : step z s = [a, b]) (r : Tr z a w L) : Tr z s (0 :: w) (s :: L)
  | right {s a b : Sta} {w : List Nat} {L : List Sta} (h : step z s = [a, b]) (r : Tr z b w L) : Tr z s (1 :: w) (s :: L)
theorem walk_tr {z : List Nat} {s e : Sta} {w : List Nat} (h : Walk z s w e) (he : e = endS z) : ∃ L, Tr z s w L := by
  induction h with
  | nil =>
    subst he
    exact ⟨_, .nil⟩
  | one h _ ih =>
    obtain ⟨L, hL⟩ := ih he
    exact ⟨_, .one h hL⟩
  | left h _ ih =>
    obtain ⟨L, hL⟩ := ih he
    exact ⟨_, .left h hL⟩
  | right h _ ih =>
    obtain ⟨L, hL⟩ := ih he
    exact ⟨_, .right h hL⟩
theorem Tr.walk {z : List Nat} {s : Sta} {w : List Nat} {L : List Sta} (h : Tr z s w L) : Walk z s w (endS z) := by
  induction h with
  | nil => exact .nil
  | one h _ ih => exact .one h ih
  | left h _ ih => exact .left h ih
  | right h _ ih => exact .right h ih
/-- what a walk that is not at its end does next -/
theorem Tr.inv {z : List Nat} {s : Sta} {w : List Nat} {L : List Sta} (h : Tr z s w L) : (s = endS z ∧ w = [] ∧ L = [endS z]) ∨ (∃ a M, step z s = [a] ∧ L = s :: M ∧ Tr z a w M) ∨
    (∃ a b c w' t M, step z s = [a, b] ∧ w = c :: w' ∧ c ≤ 1 ∧ (step z s)[c]? = some t ∧ L = s :: M ∧ Tr z t w' M) := by
  cases h with
  | nil => exact .inl ⟨rfl, rfl, rfl⟩
  | one h r => exact .inr (.inl ⟨_, _, h, rfl, r⟩)
  | left h r => exact .inr (.inr ⟨_, _, _, _, _, _, h, rfl, by decide, by rw [h]; rfl, rfl, r⟩)
  | right h r => exact .inr (.inr ⟨_, _, _, _, _, _, h, rfl, by decide, by rw [h]; rfl, rfl, r⟩)
/-! ### what a way may hold -/
/-- a thing of a known type; own tuples and lists only -/
inductive IT (H : Hp) : V → String → Prop where
  | non : IT H .non "NoneType"
  | bl (b : Bool) : IT H (.bl b) "bool"
  | int (i : Int) : IT H (.int i) "int"
  | str (x : Str) : IT H (.str x) "str"
  | lst {a : Addr} {xs : List V} (h : H a = some (.lst xs)) : IT H (.ref a) "list"
  | tup {a : Addr} {xs : List V} (h : H a = some (.tup xs)) : IT H (.ref a) "tuple"
theorem IT.kt {H : Hp} {v : V} {t : String} (h : IT H v t) : KT K H v t := by
  cases h with
  | non => exact .non
  | bl b => exact .bl b
  | int i => exact .int i
  | str x => exact .str x
  | lst h => exact .lst h
  | tup h => exact .tup (SqT.of h)
theorem IT.tx {H : Hp} {v : V} {t : String} (h : IT H v t) : TyX K H v (.type t) := by
  cases h with
  | non => exact .base .non
  | bl b => exact .base (.bl b)
  | int i => exact .base (.int i)
  | str x => exact .base (.str x)
  | lst h => exact .base (.lst h)
  | tup h => exact .base (.tup h)
/-- lists are lists still, tuples as they were -/
structure TI (H H' : Hp) : Prop where
  l : ∀ a xs, H a = some (.lst xs) → ∃ ys, H' a = some (.lst ys)
  t : ∀ a xs, H a = some (.tup xs) → H' a = some (.tup xs)
theorem TI.of {H H' : Hp} (e : Same H H') : TI H H' := ⟨fun a xs h => ⟨xs, e _ _ h⟩, fun a xs h => e _ _ h⟩
theorem TI.trans {H H1 H2 : Hp} (a : TI H H1) (b : TI H1 H2) : TI H H2 := ⟨fun x xs h => by
  obtain ⟨ys, h1⟩ := a.l x xs h
  exact b.l x ys h1, fun x k h => b.t x k (a.t x k h)⟩
theorem TI.lst {H : Hp} {l : Addr} {xs ys : List V} (h : H l = some (.lst xs)) : TI H (upd H l (.lst ys)) := ⟨fun a zs q => by
  by_cases e : a = l
  · exact ⟨ys, by rw [e]; exact upd_same⟩
  · exact ⟨zs, by rw [upd_ne e]; exact q⟩, fun a k q => by
  have e : a ≠ l := fun e => by
    rw [e, h] at q
    cases q
  rw [upd_ne e]
  exact q⟩
theorem TI.dk {H : Hp} {l : Addr} {xs ys : List (L2.Key × V)} (h : H l = some (.dK xs)) : TI H (upd H l (.dK ys)) := ⟨fun a zs q => by
  have e : a ≠ l := fun e => by
    rw [e, h] at q
    cases q
  exact ⟨zs, by rw [upd_ne e]; exact q⟩, fun a k q => by
  have e : a ≠ l := fun e => by
    rw [e, h] at q
    cases q
  rw [upd_ne e]
  exact q⟩
theorem IT.mono {H H' : Hp} {v : V} {t : String} (e : TI H H') (h : IT H v t) : IT H' v t := by
  cases h with
  | non => exact .non
  | bl b => exact .bl b
  | int i => exact .int i
  | str x => exact .str x
  | lst h =>
    obtain ⟨ys, h1⟩ := e.l _ _ h
    exact .lst h1
  | tup h => exact .tup (e.t _ _ h)
def ITs (H : Hp) (ys : List V) : Prop := ∀ y ∈ ys, ∃ t, IT H y t
theorem ITs.mono {H H' : Hp} (e : TI H H') {ys : List V} (h : ITs H ys) : ITs H' ys := fun y hy => by
  obtain ⟨t, ht⟩ := h y hy
  exact ⟨t, ht.mono e⟩
theorem ITs.nat {H : Hp} (w : List Nat) : ITs H (nat2 w) := fun y hy => by
  obtain ⟨n, _, rfl⟩ := List.mem_map.mp hy
  exact ⟨_, .int _⟩
/-- 0 or 1 -/
def isC : V → Bool
  | .int i => decide (i = 0) || decide (i = 1)
  | _ => false
theorem isC_nat {y : V} (h : isC y = true) : ∃ c : Nat, y = .int (c : Int) ∧ c ≤ 1 := by
  cases y with
  | int i =>
    rcases Bool.or_eq_true_iff.mp h with h | h
    · exact ⟨0, by rw [of_decide_eq_true h]; rfl, by decide⟩
    · exact ⟨1, by rw [of_decide_eq_true h]; rfl, by decide⟩
  | _ => cases h
/-- what becomes of a way: all states, or nothing where it does not fit -/
inductive Run (z : List Nat) : Sta → List V → Option (List Sta) → Prop where
  | nil : Run z (endS z) [] (some [endS z])
  | over {y : V} {ys : List V} : Run z (endS z) (y :: ys) none
  | dead {s : Sta} {ys : List V} (h : step z s = []) (n : s ≠ endS z) : Run z s ys none
  | one {s a : Sta} {ys : List V} {R : Option (List Sta)} (h : step z s = [a]) (r : Run z a ys R) : Run z s ys (R.map (s :: ·))
  | stop {s a b : Sta} (h : step z s = [a, b]) : Run z s [] none
  | odd {s a b : Sta} {y : V} {ys : List V} (h : step z s = [a, b]) (n : isC y = false) : Run z s (y :: ys) none
  | two {s a b t : Sta} {c : Nat} {ys : List V} {R : Option (List Sta)} (h : step z s = [a, b]) (hc : c ≤ 1) (ht : (step z s)[c]? = some t) (r : Run z t ys R) : Run z s (.int (c : Int) :: ys) (R.map (s :: ·))
theorem run_ex {p : Pat} {z : List Nat} (hn : nr p = true) : ∀ {s : Sta}, SOk p z s → ∀ ys, ∃ R, Run z s ys R := by
  obtain ⟨Tm, hT⟩ := cost_ex hn z
  have go : ∀ (n : Nat) (s : Sta), Tm s ≤ n → SOk p z s → ∀ ys, ∃ R, Run z s ys R := by
    intro n
    induction n with
    | zero =>
      intro s hs hok
      have := hT s hok
      omega
    | succ n ih =>
      intro s hs hok ys
      have ct := hT s hok
      have lt : ∀ s' ∈ step z s, Tm s' ≤ n := fun s' hm => by
        have := mem_le_sum (l := (step z s).map fun s' => 1 + Tm s') (List.mem_map.mpr ⟨s', hm, rfl⟩)
        omega
      have l2 := step_two z s
      match e : step z s, l2 with
      | [], _ =>
        by_cases h : s = endS z
        · subst h
          cases ys with
          | nil => exact ⟨_, .nil⟩
          | cons y ys => exact ⟨_, .over⟩
        · exact ⟨_, .dead e h⟩
      | [a], _ =>
        have hm : a ∈ step z s := by rw [e]; simp
        obtain ⟨R, r⟩ := ih a (lt a hm) (hok.step hn a hm) ys
        exact ⟨_, .one e r⟩
      | [a, b], _ =>
        cases ys with
        | nil => exact ⟨_, .stop e⟩
        | cons y ys =>
          cases hc : isC y with
          | false => exact ⟨_, .odd e hc⟩
          | true =>
            obtain ⟨c, rfl, hc1⟩ := isC_nat hc
            obtain ⟨t, ht⟩ : ∃ t, (step z s)[c]? = some t := by
              rw [e]
              match c, hc1 with
              | 0, _ => exact ⟨_, rfl⟩
              | 1, _ => exact ⟨_, rfl⟩
            have hm : t ∈ step z s := List.mem_of_getElem? ht
            obtain ⟨R, r⟩ := ih t (lt t hm) (hok.step hn t hm) ys
            exact ⟨_, .two e hc1 ht r⟩
      | _ :: _ :: _ :: _, h => exact absurd h (by simp)
  exact fun {s} hok ys => go _ s (Nat.le_refl _) hok ys
theorem Run.tr {z : List Nat} {s : Sta} {ys : List V} {R : Option (List Sta)} (h : Run z s ys R) : ∀ {L : List Sta}, R = some L → ∃ w, ys = nat2 w ∧ Tr z s w L := by
  induction h with
  | nil => intro L e; cases e; exact ⟨[], rfl, .nil⟩
  | over => intro L e; cases e
  | dead => intro L e; cases e
  | @one s a ys R h r ih =>
    intro L e
    cases R with
    | none => cases e
    | some M =>
      cases e
      obtain ⟨w, h1, h2⟩ := ih rfl
      exact ⟨w, h1, .one h h2⟩
  | stop => intro L e; cases e
  | odd => intro L e; cases e
  | @two s a b t c ys R h hc ht r ih =>
    intro L e
    cases R with
    | none => cases e
    | some M =>
      cases e
      obtain ⟨w, rfl, h2⟩ := ih rfl
      refine ⟨c :: w, rfl, ?_⟩
      rw [h] at ht
      match c, hc with
      | 0, _ => cases Option.some.inj ht; exact .left h h2
      | 1, _ => cases Option.some.inj ht; exact .right h h2
/-- what is done next -/
theorem Run.inv {z : List Nat} {s : Sta} {ys : List V} {R : Option (List Sta)} (h : Run z s ys R) : (s = endS z ∧ ys = [] ∧ R = some [endS z]) ∨ (s = endS z ∧ ys ≠ [] ∧ R = none) ∨ (step z s = [] ∧ s ≠ endS z ∧ R = none) ∨
    (∃ a R', step z s = [a] ∧ R = R'.map (s :: ·) ∧ Run z a ys R') ∨ (∃ a b, step z s = [a, b] ∧ (ys = [] ∨ ∃ y ys', ys = y :: ys' ∧ isC y = false) ∧ R = none) ∨
    (∃ a b c ys' t R', step z s = [a, b] ∧ ys = .int ((c : Nat) : Int) :: ys' ∧ c ≤ 1 ∧ (step z s)[c]? = some t ∧ R = R'.map (s :: ·) ∧ Run z t ys' R') := by
  cases h with
  | nil => exact .inl ⟨rfl, rfl, rfl⟩
  | over => exact .inr (.inl ⟨rfl, by simp, rfl⟩)
  | dead h n => exact .inr (.inr (.inl ⟨h, n, rfl⟩))
  | one h r => exact .inr (.inr (.inr (.inl ⟨_, _, h, rfl, r⟩)))
  | stop h => exact .inr (.inr (.inr (.inr (.inl ⟨_, _, h, .inl rfl, rfl⟩))))
  | odd h n => exact .inr (.inr (.inr (.inr (.inl ⟨_, _, h, .inr ⟨_, _, rfl, n⟩, rfl⟩))))
  | two h hc ht r => exact .inr (.inr (.inr (.inr (.inr ⟨_, _, _, _, _, _, h, rfl, hc, ht, rfl, r⟩))))
theorem map_app {A : List Sta} {s : Sta} {R : Option (List Sta)} : (R.map (s :: ·)).map (A ++ ·) = R.map ((A ++ [s]) ++ ·) := by
  cases R with
  | none => rfl
  | some L => simp
def sp_is_choice (K : PySem.W.Frag) : Sp := fun vs H Q _ => ∃ (y : V) (t : String), vs = [y] ∧ IT H y t ∧ ∀ H', Same H H' → Q (.bl (isC y)) H'
theorem ok__is_choice (T : Txt w K mg) : FnOk P w K mg base CX0 1 T.f__is_choice T.fd__is_choice ["thing"] (sp_is_choice K) := by
  refine T.F__is_choice.ok sc__is_choice (fun vs H Q E h => ?_) (fun cdv A outer s H vs Q E hr h => ?_)
  · obtain ⟨y, t, rfl, _⟩ := h
    rfl
  obtain ⟨y, t, rfl, ht, q⟩ := h
  refine ⟨_, (pss_one (ps_ret (pe_and (pe_cmpR (op_eqTyG TypeEq.meta_int) (pe_callTy call_type1 (by rfl) T.n_type (by decide +kernel) (pa_cons (pv 0) pa_nil)) (pe_bltn (v := .ty "int") (by rfl) T.n_int (by decide +kernel) rfl) (nomark _)) (pe_one (pe_cmpR op_in_seq (pv 0) (pe_tup (pa_cons pe_int (pa_cons pe_int pa_nil))) (by rfl)))))), ?_⟩
  refine ⟨_, rfl, _, _, rfl, (ht.kt (K := K)).ty, _, rfl, (ht.kt (K := K)).meta, rfl, _, rfl, ?_⟩
  cases ht with
  | int i =>
    refine iteT ?_
    refine ⟨_, rfl, sz (by show 2 ≤ 10000; decide), fun t n => ?_⟩
    refine ⟨t, [.int 0, .int 1], rfl, .inr (SqT.of upd_same), rfl, rfl, ?_⟩
    have e : inV (.int i) [.int 0, .int 1] = isC (.int i) := by
      show _ = (decide (i = 0) || decide (i = 1))
      by_cases h0 : i = 0
      · subst h0; rfl
      · by_cases h1 : i = 1
        · subst h1; rfl
        · rw [decide_eq_false h0, decide_eq_false h1]
          simp [inV, eqV, Ne.symm h0, Ne.symm h1]
    show Q (.bl (inV (.int i) [.int 0, .int 1])) _
    rw [e]
    exact q _ (same_new n)
  | _ => exact iteF (q _ (Same.refl _))
def sp_followed (T : Txt w K mg) : Sp := fun vs H Q E => ∃ (a l : Addr) (gv ls : List V), vs = [.ref a, .ref l] ∧ H a = some (.lst gv) ∧ a ≠ l ∧ H l = some (.lst ls) ∧
  ((gv = [] ∧ E (.ref T.c_BadWay) none H) ∨ (∃ g, gv = [g] ∧ Q g H) ∨ (∃ g0 g1, gv = [g0, g1] ∧ ((ls = [] ∧ E (.ref T.c_BadWay) none H) ∨
   (∃ (ls' : List V) (y : V) (t : String), ls = ls' ++ [y] ∧ IT (upd H l (.lst ls')) y t ∧ (isC y = false → ∀ H', Same (upd H l (.lst ls')) H' → E (.ref T.c_BadWay) none H') ∧
     (∀ (c : Nat) (x : V), y = .int (c : Int) → c ≤ 1 → gv[c]? = some x → ∀ H', Same (upd H l (.lst ls')) H' → Q x H')))))
theorem ok__followed (T : Txt w K mg) : FnOk P w K mg base (L2N.CX P w) 2 T.f__followed T.fd__followed ["following", "left"] (sp_followed T) := by
  refine okN T.F__followed sc__followed (fun vs H Q E h => ?_) (fun cdv A outer s H vs Q E hr h => ?_)
  · obtain ⟨a, l, gv, ls, rfl, _⟩ := h
    rfl
  obtain ⟨a, l, gv, ls, rfl, ha, hal, hl, h⟩ := h
  refine ⟨_, (pss_cons (ps_if (pt_not (pt_truth (pv 0) (by intro _; rfl)))
    (pss_one (L2N.ps_raise rfl (L2N.takes_of rfl rfl rfl rfl) (L2N.pmk_own PySem.F.excBase_ValueError T.x_BadWay T.g_BadWay T.k_BadWay (raises_own T.b_BadWay T.t_BadWay) (by exact rfl))))
    pss_nil)
  (pss_cons (ps_if (pt_cmpR op_eq (pe_callB call_len_seq (by rfl) T.n_len PySem.boot_len (pa_cons (pv 0) pa_nil)) pe_int (nomark _))
    (pss_one (ps_ret (pe_ix ix_list (pv 0) pe_int (fun _ _ => rfl))))
    pss_nil)
  (pss_cons (ps_if (pt_not (pt_truth (pv 1) (by intro _; rfl)))
    (pss_one (L2N.ps_raise rfl (L2N.takes_of rfl rfl rfl rfl) (L2N.pmk_own PySem.F.excBase_ValueError T.x_BadWay T.g_BadWay T.k_BadWay (raises_own T.b_BadWay T.t_BadWay) (by exact rfl))))
    pss_nil)
  (pss_cons (ps_set (i := 2) sc__followed.nd rfl (.inl rfl) (pe_bm0 PySem.F.plainAttrs_list PySem.F.slot_list_pop PySem.F.type_list_pop mt_pop (pv 1)))
  (pss_cons (ps_if (pt_not (pt_val (pe_call (ok__is_choice T) (hr.mono (by decide)) (by rfl) T.m__is_choice T.F__is_choice.kp T.b__is_choice .nil pass0 (pa_cons (pv 2) pa_nil))))
    (pss_one (L2N.ps_raise rfl (L2N.takes_of rfl rfl rfl rfl) (L2N.pmk_own PySem.F.excBase_ValueError T.x_BadWay T.g_BadWay T.k_BadWay (raises_own T.b_BadWay T.t_BadWay) (by exact rfl))))
    pss_nil)
  (pss_one (ps_ret (pe_ix ix_list (pv 0) (pv 2) (fun _ _ => rfl))))))))), ?_⟩
  rcases h with ⟨rfl, e⟩ | ⟨g, rfl, q⟩ | ⟨g0, g1, rfl, h⟩
  · exact ⟨_, rfl, false, .inl ⟨_, SqL.of ha, rfl⟩, iteT e⟩
  · refine ⟨_, rfl, true, .inl ⟨_, SqL.of ha, by simp⟩, iteF ?_⟩
    refine ⟨_, rfl, a, _, rfl, .inl (SqL.of ha), rfl, _, rfl, iteT ?_⟩
    exact ⟨_, rfl, a, _, _, _, rfl, rfl, SqL.of ha, at0 rfl, q⟩
  · refine ⟨_, rfl, true, .inl ⟨_, SqL.of ha, by simp⟩, iteF ?_⟩
    refine ⟨_, rfl, a, _, rfl, .inl (SqL.of ha), rfl, _, rfl, iteF ?_⟩
    rcases h with ⟨rfl, e⟩ | ⟨ls', y, t, rfl, ht, qn, qy⟩
    · exact ⟨_, rfl, false, .inl ⟨_, SqL.of hl, rfl⟩, iteT e⟩
    refine ⟨_, rfl, true, .inl ⟨_, SqL.of hl, by simp⟩, iteF ?_⟩
    refine ⟨_, rfl, .inl ⟨rfl, _, SqL.of hl⟩, l, _, y, rfl, rfl, hl, last_get _ _, ?_⟩
    rw [List.dropLast_concat]
    refine ⟨_, rfl, y, t, rfl, ht, fun H2 s2 => ⟨_, rfl, ?_⟩⟩
    cases hc : isC y with
    | false => exact iteT (qn hc H2 s2)
    | true =>
      refine iteF ?_
      obtain ⟨c, rfl, hc1⟩ := isC_nat hc
      have ha2 := s2 _ _ (show upd H l (.lst ls') a = some (.lst [g0, g1]) by rw [upd_ne hal]; exact ha)
      obtain ⟨x, hx⟩ : ∃ x, [g0, g1][c]? = some x := by
        match c, hc1 with
        | 0, _ => exact ⟨_, rfl⟩
        | 1, _ => exact ⟨_, rfl⟩
      exact ⟨_, rfl, _, rfl, a, _, _, x, rfl, rfl, SqL.of ha2, atI_nat hx, qy c x rfl hc1 hx H2 s2⟩
theorem isEnd_step {z : Str} {s : Sta} (h : isEnd z s = true) : step z.cps.toList s = [] := by
  obtain ⟨R, k⟩ := s
  cases R with
  | nil => rfl
  | cons t R => cases h
theorem SAts.snoc {H : Hp} {L : List Sta} {vs : List V} {s : Sta} {v : V} (h : SAts K H L vs) (u : SAt K H s v) : SAts K H (L ++ [s]) (vs ++ [v]) := Paired.snoc h u
def wInv (K : PySem.W.Frag) (H : Hp) (v : V) (z : Str) (a lp ll : Addr) (p : Pat) (Tm : Sta → Nat) (R0 : Option (List Sta)) (m : Nat) (σ' : L2.St) (H' : Hp) : Prop :=
  ∃ (A : List Sta) (R : Option (List Sta)) (st : Sta) (ys : List V) (vs : List V), σ' = [some v, some (.str z), some (.ref a), some (.ref lp), some (.ref ll)] ∧ Same H H' ∧ H' lp = some (.lst vs) ∧ SAts K H' (A ++ [st]) vs ∧ H' ll = some (.lst ys.reverse) ∧ lp ≠ ll ∧
    Run z.cps.toList st ys R ∧ R0 = R.map (A ++ ·) ∧ SOk p z.cps.toList st ∧ (∀ x ∈ A, SOk p z.cps.toList x ∧ nu p z.cps.toList st < nu p z.cps.toList x) ∧ A.Nodup ∧ ITs H' ys ∧ m = Tm st
def sp_walk (T : Txt w K mg) : Sp := fun vs H Q E => ∃ (p : Pat) (v : V) (z : Str) (a : Addr) (ys : List V) (R : Option (List Sta)), vs = [v, .str z, .ref a] ∧ PAt K H p v ∧ siz p ≤ 1000 ∧ dep p ≤ 50 ∧ goodP p ∧ z.length ≤ 1000 ∧ H a = some (.lst ys) ∧ ITs H ys ∧
  Run z.cps.toList ([.pat p], 0) ys R ∧ (∀ L, R = some L → ∀ (r : Addr) (ts : List V) (H' : Hp), Same H H' → H r = none → H' r = some (.lst ts) → SAts K H' L ts → L.length ≤ 3000000 → (∀ x ∈ L, SOk p z.cps.toList x) → Q (.ref r) H') ∧
  (R = none → ∀ H', Same H H' → E (.ref T.c_BadWay) none H')
theorem ok_walk (T : Txt w K mg) : FnOk P w K mg base (L2N.CX P w) 5 T.f_walk T.fd_walk ["pattern", "text", "way"] (sp_walk T) := by
  refine okN T.F_walk sc_walk (fun vs H Q E h => ?_) (fun cdv A outer s H vs Q E hr h => ?_)
  · obtain ⟨p, v, z, a, ws, L, rfl, _⟩ := h
    rfl
  obtain ⟨p, v, z, a, ys0, R0, rfl, hp, hsz, hd, hg, hz, ha, hy, htr, q, qe⟩ := h
  have hn := hg.nr
  obtain ⟨Tm, hT⟩ := cost_ex hn z.cps.toList
  have okz : ∀ {st : Sta}, SOk p z.cps.toList st → st.1.length ≤ 1000 ∧ st.2 ≤ z.length ∧ gd 50 st.1 := fun {st} h => by
    have h1 := allr_ok hn _ h.1
    have h2 := h1.len
    have h3 := h.2
    rw [str_len] at h3
    exact ⟨by omega, h3, fun t ht => Nat.le_trans (h1.gd t ht) hd⟩
  refine ⟨_, (pss_cons (ps_set (i := 3) sc_walk.nd rfl (.inl rfl) (pe_lst (pa_cons (pe_call (ok_first_state T) (hr.mono (by decide)) (by rfl) T.m_first_state T.F_first_state.kp T.b_first_state .nil pass0 (pa_cons (pe_call (ok_checked T) (hr.mono (by decide)) (by rfl) T.m_checked T.F_checked.kp T.b_checked .nil pass0 (pa_cons (pv 0) pa_nil)) pa_nil)) pa_nil)))
  (pss_cons (ps_set (i := 4) sc_walk.nd rfl (.inl rfl) (pe_revL (pv 2)))
  (pss_cons (ps_while (passes_of rfl) (pt_not (pt_val (pe_call (ok_is_end T) (hr.mono (by decide)) (by rfl) T.m_is_end T.F_is_end.kp T.b_is_end .nil pass0 (pa_cons (pe_ix ix_list (pv 3) (pe_un un_neg pe_int) (fun _ _ => rfl)) (pa_cons (pv 1) pa_nil)))))
   (pss_one (ps_expr (pe_bm PySem.F.plainAttrs_list PySem.F.slot_list_append PySem.F.type_list_append mt_append (pv 3) (pa_cons (pe_call (ok__followed T) (hr.mono (by decide)) (by rfl) T.m__followed T.F__followed.kp T.b__followed .nil (L2N.passes_call (L2N.takes_of rfl rfl rfl rfl) fun _ _ _ _ h => h) (pa_cons (pe_call (ok_onward T) (hr.mono (by decide)) (by rfl) T.m_onward T.F_onward.kp T.b_onward .nil pass0 (pa_cons (pe_ix ix_list (pv 3) (pe_un un_neg pe_int) (fun _ _ => rfl)) (pa_cons (pv 1) pa_nil))) (pa_cons (pv 4) pa_nil))) pa_nil)))))
  (pss_cons (ps_if (pt_truth (pv 4) (by intro _; rfl))
    (pss_one (L2N.ps_raise rfl (L2N.takes_of rfl rfl rfl rfl) (L2N.pmk_own PySem.F.excBase_ValueError T.x_BadWay T.g_BadWay T.k_BadWay (raises_own T.b_BadWay T.t_BadWay) (by exact rfl))))
    pss_nil)
  (pss_one (ps_ret (pv 3))))))), ?_⟩
  refine ⟨_, rfl, p, v, rfl, hp, hsz, hg, fun H1 s1 => ?_⟩
  refine ⟨p, v, rfl, hp.mono (TS.of s1), fun t H2 s2 hs => ?_⟩
  refine ⟨sz (by show 1 ≤ 10000; decide), fun lp np => ?_⟩
  have s12 := s1.trans s2
  have s3 := same_new (o := .lst [.ref t]) np
  have s13 := s12.trans s3
  have np0 := s12.free np
  refine ⟨_, rfl, a, _, rfl, SqL.of (s13 _ _ ha), fun ll nl => ?_⟩
  have s4 := same_new (o := .lst ys0.reverse) nl
  have nl0 := s13.free nl
  have nll : lp ≠ ll := fun e => by
    rw [← e, upd_same] at nl
    cases nl
  refine ⟨wInv K H v z a lp ll p Tm R0, ⟨_, [], R0, _, ys0, [.ref t], rfl, s13.trans s4, s4 _ _ upd_same, .cons (hs.mono (TS.of (s3.trans s4))) .nil, upd_same, nll, htr, by cases R0 <;> rfl, SOk.first _ _, (fun x hx => by cases hx), List.nodup_nil, hy.mono (TI.of (s13.trans s4)), rfl⟩, ?_⟩
  clear s4 nl s13 s3 s12 np hs s2 s1
  rintro m σ' H3 ⟨A', R, st, ys, vs, rfl, s1, hl, pv, hll, _, tr, eR, hok, hA, nA, hy3, rfl⟩
  have ne0 : A' ++ [st] ≠ [] := by simp
  obtain ⟨A1, x1, vs1, sv, eA, rfl, pvA, hs⟩ := Paired.last pv (by
    have h1 := Paired.length pv
    have h2 : (A' ++ [st]).length = A'.length + 1 := by rw [List.length_append]; rfl
    omega)
  obtain ⟨rfl, ex⟩ := List.append_inj' eA rfl
  obtain rfl : st = x1 := (List.cons.inj ex).1
  clear eA ex
  have few : (A' ++ [st]).length < 3000000 := by
    refine states_few (p := p) (z := z.cps.toList) ?_ ?_ hsz (by rw [str_len]; exact hz)
    · rw [List.nodup_append]
      refine ⟨nA, by simp, fun x hx y hy e => ?_⟩
      rw [List.mem_singleton.mp hy] at e
      have := (hA x hx).2
      rw [e] at this
      omega
    · intro x hx
      rcases List.mem_append.mp hx with hx | hx
      · exact (hA x hx).1
      · rw [List.mem_singleton.mp hx]
        exact hok
  have lv : (A' ++ [st]).length = (vs1 ++ [sv]).length := Paired.length pv
  obtain ⟨o1, o2, o3⟩ := okz hok
  refine ⟨_, rfl, _, rfl, lp, _, _, sv, rfl, rfl, SqL.of hl, atI_last _ _, _, rfl, st, sv, z, rfl, hs, o3, hz, fun H4 s4 => ⟨_, rfl, ?_⟩⟩
  have hl4 := s4 _ _ hl
  have hll4 := s4 _ _ hll
  have hs4 := hs.mono (TS.of (K := K) s4)
  have pv4 := SAts.mono (TS.of (K := K) s4) pv
  have hy4 := hy3.mono (TI.of s4)
  have s14 := s1.trans s4
  have ct := hT st hok
  have end_is : isEnd z (endS z.cps.toList) = true := by
    show (true && decide (((z.cps.toList.length : Nat) : Int) = ((z.length : Nat) : Int))) = true
    rw [str_len]
    simp
  have end_not : st ≠ endS z.cps.toList → isEnd z st = false := fun h0 => by
    cases e : isEnd z st with
    | false => rfl
    | true =>
      exfalso
      obtain ⟨R1, k1⟩ := st
      cases R1 with
      | nil =>
        have e1 : (true && decide (((k1 : Nat) : Int) = ((z.length : Nat) : Int))) = true := e
        have e2 : ((k1 : Nat) : Int) = ((z.length : Nat) : Int) := by simpa using e1
        exact h0 (by
          show (([], k1) : Sta) = ([], z.cps.toList.length)
          rw [str_len]
          have : k1 = z.length := by omega
          rw [this])
      | cons t R1 => cases e
  rcases tr.inv with ⟨rfl, rfl, rfl⟩ | ⟨rfl, hne, rfl⟩ | ⟨e1, h0, rfl⟩ | ⟨s', R', e1, rfl, tr'⟩ | ⟨sa, sb, e1, hb, rfl⟩ | ⟨sa, sb, c, ys', s', R', e1, rfl, hc, e2, rfl, tr'⟩
  · rw [end_is]
    refine iteF ?_
    refine ⟨_, rfl, false, .inl ⟨_, SqL.of hll4, rfl⟩, iteF ?_⟩
    refine ⟨_, rfl, q _ eR lp _ H4 s14 np0 hl4 pv4 (Nat.le_of_lt few) fun x hx => ?_⟩
    rcases List.mem_append.mp hx with hx | hx
    · exact (hA x hx).1
    · rw [List.mem_singleton.mp hx]
      exact hok
  · rw [end_is]
    refine iteF ?_
    refine ⟨_, rfl, true, .inl ⟨_, SqL.of hll4, by simpa using hne⟩, iteT ?_⟩
    exact qe eR H4 s14
  · rw [end_not h0]
    refine iteT ?_
    refine ⟨fun σ' H' => ∃ m', m' < Tm st ∧ wInv K H v z a lp ll p Tm R0 m' σ' H', fun σ' H' h => h, ?_⟩
    refine ⟨_, rfl, .inl ⟨rfl, _, SqL.of hl4⟩, _, rfl, _, rfl, lp, _, _, sv, rfl, rfl, SqL.of hl4, atI_last _ _, _, rfl, st, sv, z, rfl, hs4, o1, o2, hz, fun gl gv H5 s5 ngl hg pg => ?_⟩
    rw [e1] at pg
    obtain rfl : gv = [] := List.length_eq_zero_iff.mp (by have := Paired.length pg; simpa using this.symm)
    refine ⟨_, rfl, gl, ll, _, _, rfl, hg, ?_, s5 _ _ hll4, .inl ⟨rfl, qe eR H5 (s14.trans s5)⟩⟩
    intro e
    rw [e, hll4] at ngl
    cases ngl
  · have h0 : st ≠ endS z.cps.toList := fun e => by
      rw [e, step_end] at e1
      cases e1
    rw [end_not h0]
    refine iteT ?_
    refine ⟨fun σ' H' => ∃ m', m' < Tm st ∧ wInv K H v z a lp ll p Tm R0 m' σ' H', fun σ' H' h => h, ?_⟩
    refine ⟨_, rfl, .inl ⟨rfl, _, SqL.of hl4⟩, _, rfl, _, rfl, lp, _, _, sv, rfl, rfl, SqL.of hl4, atI_last _ _, _, rfl, st, sv, z, rfl, hs4, o1, o2, hz, fun gl gv H5 s5 ngl hg pg => ?_⟩
    rw [e1] at pg
    obtain ⟨g0, rfl⟩ : ∃ g, gv = [g] := List.length_eq_one_iff.mp (by have := Paired.length pg; simpa using this.symm)
    have hl5 := s5 _ _ hl4
    have hll5 := s5 _ _ hll4
    have hm : s' ∈ step z.cps.toList st := by rw [e1]; simp
    have ok' := hok.step hn s' hm
    have nd := nu_dec hn hok s' hm
    rw [e1] at ct
    simp only [List.map_cons, List.map_nil, List.sum_cons, List.sum_nil] at ct
    have g0' : SAt K H5 s' g0 := by
      cases pg with
      | cons h _ => exact h
    refine ⟨_, rfl, gl, ll, _, _, rfl, hg, ?_, hll5, .inr (.inl ⟨g0, rfl, ?_⟩)⟩
    · intro e
      rw [e, hll4] at ngl
      cases ngl
    refine ⟨lp, _, g0, rfl, rfl, hl5, by rw [sizeLine_eq]; omega, ?_⟩
    have e9 : TS K H5 (upd H5 lp (.lst (vs1 ++ [sv] ++ [g0]))) := TS.lst hl5
    refine ⟨Tm s', by omega, A' ++ [st], R', s', ys, vs1 ++ [sv] ++ [g0], rfl, Same.mut (s14.trans s5) np0, upd_same, SAts.snoc (SAts.mono e9 (SAts.mono (TS.of s5) pv4)) (g0'.mono e9), by rw [upd_ne nll.symm]; exact hll5, nll, tr', by rw [eR, map_app], ok', fun x hx => ?_, ?_, (hy4.mono (TI.of s5)).mono (TI.lst hl5), rfl⟩
    · rcases List.mem_append.mp hx with hx | hx
      · have := hA x hx
        exact ⟨this.1, by omega⟩
      · rw [List.mem_singleton.mp hx]
        exact ⟨hok, nd⟩
    · rw [List.nodup_append]
      refine ⟨nA, by simp, fun x hx y hy e => ?_⟩
      rw [List.mem_singleton.mp hy] at e
      have := (hA x hx).2
      rw [e] at this
      omega
  · have h0 : st ≠ endS z.cps.toList := fun e => by
      rw [e, step_end] at e1
      cases e1
    rw [end_not h0]
    refine iteT ?_
    refine ⟨fun σ' H' => ∃ m', m' < Tm st ∧ wInv K H v z a lp ll p Tm R0 m' σ' H', fun σ' H' h => h, ?_⟩
    refine ⟨_, rfl, .inl ⟨rfl, _, SqL.of hl4⟩, _, rfl, _, rfl, lp, _, _, sv, rfl, rfl, SqL.of hl4, atI_last _ _, _, rfl, st, sv, z, rfl, hs4, o1, o2, hz, fun gl gv H5 s5 ngl hg pg => ?_⟩
    have hgl := Paired.length pg
    obtain ⟨g0, g1, rfl⟩ : ∃ g0 g1, gv = [g0, g1] := by
      rcases gv with _ | ⟨g0, _ | ⟨g1, _ | ⟨g2, gs⟩⟩⟩ <;> first | exact ⟨_, _, rfl⟩ | (rw [e1] at hgl; simp at hgl)
    have hll5 := s5 _ _ hll4
    refine ⟨_, rfl, gl, ll, _, _, rfl, hg, ?_, hll5, .inr (.inr ⟨g0, g1, rfl, ?_⟩)⟩
    · intro e
      rw [e, hll4] at ngl
      cases ngl
    rcases hb with rfl | ⟨y, ys', rfl, hc⟩
    · exact .inl ⟨rfl, qe eR H5 (s14.trans s5)⟩
    · obtain ⟨t, ht⟩ := hy4 y List.mem_cons_self
      refine .inr ⟨ys'.reverse, y, t, by rw [List.reverse_cons], (ht.mono (TI.of s5)).mono (TI.lst hll5), fun _ H6 s6 => qe eR H6 ((Same.mut (s14.trans s5) nl0).trans s6), fun c x ec hc1 _ => ?_⟩
      rw [ec] at hc
      match c, hc1 with
      | 0, _ => cases hc
      | 1, _ => cases hc
  · have h0 : st ≠ endS z.cps.toList := fun e => by
      rw [e, step_end] at e1
      cases e1
    rw [end_not h0]
    refine iteT ?_
    refine ⟨fun σ' H' => ∃ m', m' < Tm st ∧ wInv K H v z a lp ll p Tm R0 m' σ' H', fun σ' H' h => h, ?_⟩
    refine ⟨_, rfl, .inl ⟨rfl, _, SqL.of hl4⟩, _, rfl, _, rfl, lp, _, _, sv, rfl, rfl, SqL.of hl4, atI_last _ _, _, rfl, st, sv, z, rfl, hs4, o1, o2, hz, fun gl gv H5 s5 ngl hg pg => ?_⟩
    have hm : s' ∈ step z.cps.toList st := List.mem_of_getElem? e2
    have ok' := hok.step hn s' hm
    have nd := nu_dec hn hok s' hm
    have lt : Tm s' < Tm st := by
      have := mem_le_sum (l := (step z.cps.toList st).map fun s' => 1 + Tm s') (List.mem_map.mpr ⟨s', hm, rfl⟩)
      omega
    have hgl := Paired.length pg
    have hc2 := (List.getElem?_eq_some_iff.mp e2).1
    obtain ⟨y, e0, u0⟩ := Paired.at pg (List.getElem?_eq_getElem (show c < gv.length by omega))
    rw [e2] at e0
    cases Option.some.inj e0
    have ex := List.getElem?_eq_getElem (show c < gv.length by omega)
    generalize gv[c]'(show c < gv.length by omega) = g at u0 ex
    have u0 : SAt K H5 s' g := u0
    obtain ⟨g0, g1, rfl⟩ : ∃ g0 g1, gv = [g0, g1] := by
      rcases gv with _ | ⟨g0, _ | ⟨g1, _ | ⟨g2, gs⟩⟩⟩ <;> first | exact ⟨_, _, rfl⟩ | (rw [e1] at hgl; simp at hgl)
    have hl5 := s5 _ _ hl4
    have hll5 := s5 _ _ hll4
    rw [List.reverse_cons] at hll5
    refine ⟨_, rfl, gl, ll, _, _, rfl, hg, ?_, hll5, .inr (.inr ⟨g0, g1, rfl, .inr ⟨ys'.reverse, .int (c : Int), _, rfl, .int _, fun hn => ?_, fun c' x ec _ hx H6 s6 => ?_⟩⟩)⟩
    · intro e
      rw [e, hll4] at ngl
      cases ngl
    · match c, hc with
      | 0, _ => cases hn
      | 1, _ => cases hn
    obtain rfl : c = c' := by
      have := V.int.inj ec
      omega
    rw [ex] at hx
    cases Option.some.inj hx
    have t6 : TS K H5 H6 := (TS.lst (K := K) hll5).trans (TS.of s6)
    have i6 : TI H5 H6 := (TI.lst hll5).trans (TI.of s6)
    have hl6 := s6 _ _ (show upd H5 ll (.lst ys'.reverse) lp = some (.lst (vs1 ++ [sv])) by rw [upd_ne nll]; exact hl5)
    have hll6 := s6 _ _ (upd_same (H := H5) (a := ll) (o := .lst ys'.reverse))
    have s16 : Same H H6 := (Same.mut (s14.trans s5) nl0).trans s6
    refine ⟨lp, _, g, rfl, rfl, hl6, by rw [sizeLine_eq]; omega, ?_⟩
    have e9 : TS K H6 (upd H6 lp (.lst (vs1 ++ [sv] ++ [g]))) := TS.lst hl6
    refine ⟨Tm s', lt, A' ++ [st], R', s', ys', vs1 ++ [sv] ++ [g], rfl, Same.mut s16 np0, upd_same, SAts.snoc (SAts.mono e9 (SAts.mono t6 (SAts.mono (TS.of s5) pv4))) ((u0.mono t6).mono e9), by rw [upd_ne nll.symm]; exact hll6, nll, tr', by rw [eR, map_app], ok', fun x hx => ?_, ?_, ?_, rfl⟩
    · rcases List.mem_append.mp hx with hx | hx
      · have := hA x hx
        exact ⟨this.1, by omega⟩
      · rw [List.mem_singleton.mp hx]
        exact ⟨hok, nd⟩
    · rw [List.nodup_append]
      refine ⟨nA, by simp, fun x hx y hy e => ?_⟩
      rw [List.mem_singleton.mp hy] at e
      have := (hA x hx).2
      rw [e] at this
      omega
    · have hy' : ITs H4 ys' := fun y hy => hy4 y (List.mem_cons_of_mem _ hy)
      exact ((hy'.mono (TI.of s5)).mono i6).mono (TI.lst hl6)

end
end G1

set_option maxRecDepth 100000
set_option maxHeartbeats 4000000
namespace G1
open PySem PySem.Spec PyProof.Rows L2 Gm
section
variable {P : Program} {w : World} {K : PySem.W.Frag} {mg : Str → Option Value} {base : Heap}
theorem hk__is_sign (T : Txt w K mg) : L2H.FnH P w K mg base CX0 1 T.f__is_sign T.fd__is_sign ["thing"] sp_is_sign := by
  refine okH T.F__is_sign sc__is_sign (fun vs H Q E h => ?_) (fun cdv A outer s H vs Q E pp hot hc hr h => ?_)
  · obtain ⟨c, rfl, _⟩ := h
    rfl
  obtain ⟨c, rfl, q⟩ := h
  refine ⟨_, (pss_one (ps_ret (pe_and (pe_cmpR (op_eqTy TypeEq.meta_str) (pe_callTy call_type1 (by rfl) T.n_type (by decide +kernel) (pa_cons (pv 0) pa_nil)) (pe_bltn (v := .ty "str") (by rfl) T.n_str (by decide +kernel) rfl) (nomark _)) (pe_one (pe_cmpR op_eq (pe_callB call_len (by rfl) T.n_len PySem.boot_len (pa_cons (pv 0) pa_nil)) pe_int (nomark _)))))), ?_⟩
  refine ⟨_, rfl, _, _, rfl, .str _, rfl, rfl, _, rfl, iteT ?_⟩
  refine ⟨_, rfl, _, _, rfl, ⟨sz (by show 1 ≤ 10000; decide), rfl⟩, rfl, ?_⟩
  exact q

theorem hk__is_group_number (T : Txt w K mg) : L2H.FnH P w K mg base CX0 1 T.f__is_group_number T.fd__is_group_number ["thing"] sp_is_group_number := by
  refine okH T.F__is_group_number sc__is_group_number (fun vs H Q E h => ?_) (fun cdv A outer s H vs Q E pp hot hc hr h => ?_)
  · obtain ⟨c, rfl, _⟩ := h
    rfl
  obtain ⟨n, rfl, hn, q⟩ := h
  refine ⟨_, (pss_one (ps_ret (pe_and (pe_cmpR (op_eqTy TypeEq.meta_int) (pe_callTy call_type1 (by rfl) T.n_type (by decide +kernel) (pa_cons (pv 0) pa_nil)) (pe_bltn (v := .ty "int") (by rfl) T.n_int (by decide +kernel) rfl) (nomark _)) (pe_one (pe_cmpR op_ge (pv 0) pe_int (nomark _)))))), ?_⟩
  refine ⟨_, rfl, _, _, rfl, .int _, rfl, rfl, _, rfl, iteT ?_⟩
  refine ⟨_, rfl, _, _, rfl, rfl, ?_⟩
  show Q (.bl (decide (1 ≤ n))) H
  rw [decide_eq_true hn]
  exact q

theorem hk__has_form (T : Txt w K mg) : L2H.FnH P w K mg base CX0 2 T.f__has_form T.fd__has_form ["thing"] (sp_has_form K) := by
  refine okH T.F__has_form sc__has_form (fun vs H Q E h => ?_) (fun cdv A outer s H vs Q E pp hot hc hr h => ?_)
  · obtain ⟨p, v, rfl, _⟩ := h
    rfl
  obtain ⟨p, v, rfl, hp, q⟩ := h
  obtain ⟨a, ws, rfl, ht, hk⟩ := hp.node
  have hl : (V.str (nm p) :: (mid p ++ ws)).length = 1 + (mid p).length + (kids p).length := by
    rw [List.length_cons, List.length_append, ← Paired.length hk]
    omega
  have g : KGet K w T.d_LENGTHS (nm p) (some (.int (arity p))) := by
    cases p
    · exact T.g_sign
    · exact T.g_any
    · exact T.g_none
    · exact T.g_row
    · exact T.g_or
    · exact T.g_more
    · exact T.g_less
    · exact T.g_group
  refine ⟨_, (pss_cons (ps_if (PW.pt (pw_or (pt_cmpR (op_neTy TypeEq.meta_tuple) (pe_callTy call_type1 (by rfl) T.n_type (by decide +kernel) (pa_cons (pv 0) pa_nil)) (pe_bltn (v := .ty "tuple") (by rfl) T.n_tuple (by decide +kernel) rfl) (nomark _)) (pw_or1 (pt_cmpR op_eq (pe_callB call_len_seq (by rfl) T.n_len PySem.boot_len (pa_cons (pv 0) pa_nil)) pe_int (nomark _)))))
    (pss_one (ps_ret pe_bl))
    pss_nil)
  (pss_cons (ps_set (i := 1) sc__has_form.nd rfl (.inl rfl) (pe_ix ix_tup (pv 0) pe_int (fun _ _ => rfl)))
  (pss_cons (ps_if (PW.pt (pw_or (pt_cmpR (op_neTy TypeEq.meta_str) (pe_callTy call_type1 (by rfl) T.n_type (by decide +kernel) (pa_cons (pv 1) pa_nil)) (pe_bltn (v := .ty "str") (by rfl) T.n_str (by decide +kernel) rfl) (nomark _)) (pw_or1 (pt_cmpR op_ne (pe_kget (pe_glob (v := .ref T.d_LENGTHS) (by rfl) T.m_LENGTHS rfl) (pv 1) ⟨rfl, rfl, rfl, rfl⟩) (pe_callB call_len_seq (by rfl) T.n_len PySem.boot_len (pa_cons (pv 0) pa_nil)) (nomark _)))))
    (pss_one (ps_ret pe_bl))
    pss_nil)
  (pss_cons (ps_if (pt_cmpR op_eq (pv 1) pe_str (nomark _))
    (pss_one (ps_ret (L2H.pe_callH (E := fun _ => E0) (hk__is_sign T) (hr.mono (by decide)) hc (by rfl) T.m__is_sign T.F__is_sign.kp T.b__is_sign (fun _ _ _ _ _ _ _ h => h.elim) (pa_cons (pe_ix ix_tup (pv 0) pe_int (fun _ _ => rfl)) pa_nil))))
    pss_nil)
  (pss_cons (ps_if (pt_cmpR op_eq (pv 1) pe_str (nomark _))
    (pss_one (ps_ret (L2H.pe_callH (E := fun _ => E0) (hk__is_group_number T) (hr.mono (by decide)) hc (by rfl) T.m__is_group_number T.F__is_group_number.kp T.b__is_group_number (fun _ _ _ _ _ _ _ h => h.elim) (pa_cons (pe_ix ix_tup (pv 0) pe_int (fun _ _ => rfl)) pa_nil))))
    pss_nil)
  (pss_one (ps_ret pe_bl))))))), ?_⟩
  refine ⟨_, rfl, _, _, rfl, .tup ht, rfl, rfl, _, rfl, iteF ?_⟩
  refine ⟨_, rfl, a, _, rfl, .inr ht, rfl, _, rfl, ?_⟩
  have e0 : decide (V.int (((V.str (nm p) :: (mid p ++ ws)).length : Nat) : Int) = V.int 0) = false := decide_eq_false fun z => by
    have z' := V.int.inj z
    rw [hl] at z'
    omega
  rw [e0]
  refine iteF ?_
  refine ⟨_, rfl, _, _, _, _, rfl, rfl, ht, at0 rfl, ?_⟩
  refine ⟨_, rfl, _, _, rfl, .str _, rfl, rfl, _, rfl, iteF ?_⟩
  refine ⟨_, rfl, T.w_LENGTHS, T.y_LENGTHS, _, rfl, _, _, rfl, g, ?_⟩
  refine ⟨_, rfl, a, _, rfl, .inr ht, rfl, _, rfl, ?_⟩
  have e1 : (!decide (V.int (arity p) = V.int (((V.str (nm p) :: (mid p ++ ws)).length : Nat) : Int))) = false := by
    rw [decide_eq_true]
    · rfl
    · rw [hl]
      unfold arity
      congr 1
  show if (!decide (V.int (arity p) = V.int (((V.str (nm p) :: (mid p ++ ws)).length : Nat) : Int))) = true then _ else _
  rw [e1]
  refine iteF ?_
  refine ⟨_, rfl, rfl, _, rfl, ?_⟩
  cases p with
  | sign c =>
    refine iteT ?_
    exact ⟨_, rfl, _, _, _, _, rfl, rfl, ht, at1 rfl, c, rfl, q⟩
  | group n p =>
    refine iteF ?_
    refine ⟨_, rfl, rfl, _, rfl, iteT ?_⟩
    exact ⟨_, rfl, _, _, _, _, rfl, rfl, ht, at1 rfl, n, rfl, hp.num, q⟩
  | _ =>
    refine iteF ?_
    refine ⟨_, rfl, rfl, _, rfl, iteF ?_⟩
    exact q

theorem hk__inner (T : Txt w K mg) : L2H.FnH P w K mg base CX0 1 T.f__inner T.fd__inner ["part"] (sp_inner K) := by
  refine okH T.F__inner sc__inner (fun vs H Q E h => ?_) (fun cdv A outer s H vs Q E pp hot hc hr h => ?_)
  · obtain ⟨p, v, rfl, _⟩ := h
    rfl
  obtain ⟨p, v, rfl, hp, q⟩ := h
  obtain ⟨a, ws, rfl, ht, hk⟩ := hp.node
  refine ⟨_, (pss_cons (ps_if (pt_cmpR op_in_seq (pe_ix ix_tup (pv 0) pe_int (fun _ _ => rfl)) (pe_tup (pa_cons pe_str (pa_cons pe_str pa_nil))) (by rfl))
    (pss_one (ps_ret (pe_lst (pa_cons (pe_ix ix_tup (pv 0) pe_int (fun _ _ => rfl)) (pa_cons (pe_ix ix_tup (pv 0) pe_int (fun _ _ => rfl)) pa_nil)))))
    pss_nil)
  (pss_cons (ps_if (pt_cmpR op_in_seq (pe_ix ix_tup (pv 0) pe_int (fun _ _ => rfl)) (pe_tup (pa_cons pe_str (pa_cons pe_str pa_nil))) (by rfl))
    (pss_one (ps_ret (pe_lst (pa_cons (pe_ix ix_tup (pv 0) pe_int (fun _ _ => rfl)) pa_nil))))
    pss_nil)
  (pss_cons (ps_if (pt_cmpR op_eq (pe_ix ix_tup (pv 0) pe_int (fun _ _ => rfl)) pe_str (nomark _))
    (pss_one (ps_ret (pe_lst (pa_cons (pe_ix ix_tup (pv 0) pe_int (fun _ _ => rfl)) pa_nil))))
    pss_nil)
  (pss_one (ps_ret (pe_lst pa_nil)))))), ?_⟩
  refine ⟨_, rfl, _, _, _, _, rfl, rfl, ht, at0 rfl, (by show 2 ≤ sizeLine; exact sz (by decide)), fun t1 n1 => ⟨_, _, rfl, .inr (SqT.of upd_same), rfl, rfl, _, rfl, ?_⟩⟩
  have s1 := same_new (o := .tup [.str "row", .str "or"]) n1
  have ht1 := TS.of (K := K) s1 _ _ ht
  have hk1 := PAts.mono (TS.of (K := K) s1) hk
  cases p with
  | row p1 p2 =>
    cases hk with
    | cons k1 k2 =>
      cases k2 with
      | cons k2 k3 =>
        cases k3
        refine iteT ?_
        refine ⟨_, rfl, _, _, _, _, rfl, rfl, ht1, at1 rfl, _, rfl, _, _, _, _, rfl, rfl, ht1, at2 rfl, (by show 2 ≤ sizeLine; exact sz (by decide)), fun r hr => ?_⟩
        exact q r _ _ (s1.trans (same_new hr)) (s1.free hr) upd_same (hk1.mono (TS.new hr))
  | or p1 p2 =>
    cases hk with
    | cons k1 k2 =>
      cases k2 with
      | cons k2 k3 =>
        cases k3
        refine iteT ?_
        refine ⟨_, rfl, _, _, _, _, rfl, rfl, ht1, at1 rfl, _, rfl, _, _, _, _, rfl, rfl, ht1, at2 rfl, (by show 2 ≤ sizeLine; exact sz (by decide)), fun r hr => ?_⟩
        exact q r _ _ (s1.trans (same_new hr)) (s1.free hr) upd_same (hk1.mono (TS.new hr))
  | more p1 =>
    cases hk with
    | @cons _ x _ _ k1 k2 =>
      cases k2
      refine iteF ?_
      refine ⟨_, rfl, _, _, _, _, rfl, rfl, ht1, at0 rfl, (by show 2 ≤ sizeLine; exact sz (by decide)), fun t2 n2 => ⟨_, _, rfl, .inr (SqT.of upd_same), rfl, rfl, _, rfl, iteT ?_⟩⟩
      have s2 := s1.trans (same_new (o := .tup [.str "more", .str "less"]) n2)
      have ht2 := TS.of (K := K) s2 _ _ ht
      refine ⟨_, rfl, _, _, _, _, rfl, rfl, ht2, at1 rfl, (by show 1 ≤ sizeLine; exact sz (by decide)), fun r hr => ?_⟩
      exact q r _ _ (s2.trans (same_new hr)) (s2.free hr) upd_same (PAts.mono (TS.of (s2.trans (same_new hr))) (.cons k1 .nil))
  | less p1 =>
    cases hk with
    | @cons _ x _ _ k1 k2 =>
      cases k2
      refine iteF ?_
      refine ⟨_, rfl, _, _, _, _, rfl, rfl, ht1, at0 rfl, (by show 2 ≤ sizeLine; exact sz (by decide)), fun t2 n2 => ⟨_, _, rfl, .inr (SqT.of upd_same), rfl, rfl, _, rfl, iteT ?_⟩⟩
      have s2 := s1.trans (same_new (o := .tup [.str "more", .str "less"]) n2)
      have ht2 := TS.of (K := K) s2 _ _ ht
      refine ⟨_, rfl, _, _, _, _, rfl, rfl, ht2, at1 rfl, (by show 1 ≤ sizeLine; exact sz (by decide)), fun r hr => ?_⟩
      exact q r _ _ (s2.trans (same_new hr)) (s2.free hr) upd_same (PAts.mono (TS.of (s2.trans (same_new hr))) (.cons k1 .nil))
  | group n p1 =>
    cases hk with
    | @cons _ x _ _ k1 k2 =>
      cases k2
      refine iteF ?_
      refine ⟨_, rfl, _, _, _, _, rfl, rfl, ht1, at0 rfl, (by show 2 ≤ sizeLine; exact sz (by decide)), fun t2 n2 => ⟨_, _, rfl, .inr (SqT.of upd_same), rfl, rfl, _, rfl, iteF ?_⟩⟩
      have s2 := s1.trans (same_new (o := .tup [.str "more", .str "less"]) n2)
      have ht2 := TS.of (K := K) s2 _ _ ht
      refine ⟨_, rfl, _, _, _, _, rfl, rfl, ht2, at0 rfl, rfl, _, rfl, iteT ?_⟩
      refine ⟨_, rfl, _, _, _, _, rfl, rfl, ht2, at2 rfl, (by show 1 ≤ sizeLine; exact sz (by decide)), fun r hr => ?_⟩
      exact q r _ _ (s2.trans (same_new hr)) (s2.free hr) upd_same (PAts.mono (TS.of (s2.trans (same_new hr))) (.cons k1 .nil))
  | _ =>
    cases hk
    refine iteF ?_
    refine ⟨_, rfl, _, _, _, _, rfl, rfl, ht1, at0 rfl, (by show 2 ≤ sizeLine; exact sz (by decide)), fun t2 n2 => ⟨_, _, rfl, .inr (SqT.of upd_same), rfl, rfl, _, rfl, iteF ?_⟩⟩
    have s2 := s1.trans (same_new (o := .tup [.str "more", .str "less"]) n2)
    have ht2 := TS.of (K := K) s2 _ _ ht
    refine ⟨_, rfl, _, _, _, _, rfl, rfl, ht2, at0 rfl, rfl, _, rfl, iteF ?_⟩
    refine ⟨Nat.zero_le _, fun r hr => ?_⟩
    exact q r _ _ (s2.trans (same_new hr)) (s2.free hr) upd_same .nil

theorem hk__may_take_nothing (T : Txt w K mg) : L2H.FnH P w K mg base CX0 1 T.f__may_take_nothing T.fd__may_take_nothing ["name", "inner_answers"] (sp_may K) := by
  refine okH T.F__may_take_nothing sc__may_take_nothing (fun vs H Q E h => ?_) (fun cdv A outer s H vs Q E pp hot hc hr h => ?_)
  · obtain ⟨z, a, bs, rfl, _⟩ := h
    rfl
  obtain ⟨z, a, bs, rfl, ha, q⟩ := h
  refine ⟨_, (pss_cons (ps_if (pt_cmpR op_in_seq (pv 0) (pe_tup (pa_cons pe_str (pa_cons pe_str (pa_cons pe_str pa_nil)))) (by rfl))
    (pss_one (ps_ret pe_bl))
    pss_nil)
  (pss_cons (ps_if (pt_cmpR op_in_seq (pv 0) (pe_tup (pa_cons pe_str (pa_cons pe_str pa_nil))) (by rfl))
    (pss_one (ps_ret (pe_callB (cr_allX hot) (by rfl) T.n_all (by decide +kernel) (pa_cons (pv 1) pa_nil))))
    pss_nil)
  (pss_one (ps_ret (pe_callB (cr_anyX hot) (by rfl) T.n_any (by decide +kernel) (pa_cons (pv 1) pa_nil)))))), ?_⟩
  refine ⟨_, rfl, ⟨(by show 3 ≤ sizeLine; exact sz (by decide)), fun t1 n1 => ⟨_, _, rfl, .inr (SqT.of upd_same), rfl, rfl, _, rfl, ?_⟩⟩⟩
  have s1 := same_new (o := .tup [.str "none", .str "more", .str "less"]) n1
  rw [inV3]
  refine ite2 (fun c => ?_) (fun c => ?_)
  · have e : mtn z bs = true := by
      unfold mtn
      rw [if_pos (of_decide_eq_true c)]
    have := q _ s1
    rw [e] at this
    exact this
  · refine ⟨_, rfl, ⟨(by show 2 ≤ sizeLine; exact sz (by decide)), fun t2 n2 => ⟨_, _, rfl, .inr (SqT.of upd_same), rfl, rfl, _, rfl, ?_⟩⟩⟩
    have s2 := s1.trans (same_new (o := .tup [.str "row", .str "group"]) n2)
    rw [inV2]
    have c' := of_decide_eq_false (Bool.eq_false_iff.mpr c)
    refine ite2 (fun d => ?_) (fun d => ?_)
    · have e : mtn z bs = bs.all id := by
        unfold mtn
        rw [if_neg c', if_pos (of_decide_eq_true d)]
      have := q _ s2
      rw [e] at this
      exact ⟨_, rfl, a, bs, rfl, s2.seq ha, this⟩
    · have e : mtn z bs = bs.any id := by
        unfold mtn
        rw [if_neg c', if_neg (of_decide_eq_false (Bool.eq_false_iff.mpr d))]
      have := q _ s2
      rw [e] at this
      exact ⟨_, rfl, a, bs, rfl, s2.seq ha, this⟩

theorem hk_parts (T : Txt w K mg) : L2H.FnH P w K mg base CX0 3 T.f_parts T.fd_parts ["pattern"] (sp_parts K) := by
  refine okH T.F_parts sc_parts (fun vs H Q E h => ?_) (fun cdv A outer s H vs Q E pp hot hc hr h => ?_)
  · obtain ⟨p, v, rfl, _⟩ := h
    rfl
  obtain ⟨p, v, rfl, hp, hz, q⟩ := h
  refine ⟨_, (pss_cons (ps_set (i := 1) sc_parts.nd rfl (.inl rfl) (pe_lst pa_nil))
  (pss_cons (ps_set (i := 2) sc_parts.nd rfl (.inl rfl) (pe_lst (pa_cons (pv 0) pa_nil)))
  (pss_cons (ps_while (passes_of rfl) (pt_truth (pv 2) (by intro _; rfl))
   (pss_cons (ps_set (i := 3) sc_parts.nd rfl (.inl rfl) (pe_bm0 PySem.F.plainAttrs_list PySem.F.slot_list_pop PySem.F.type_list_pop mt_pop (pv 2)))
  (pss_cons (ps_if (pt_not (pt_val (L2H.pe_callH (E := fun _ => E0) (hk__has_form T) (hr.mono (by decide)) hc (by rfl) T.m__has_form T.F__has_form.kp T.b__has_form (fun _ _ _ _ _ _ _ h => h.elim) (pa_cons (pv 3) pa_nil))))
    (pss_one ps_never)
    pss_nil)
  (pss_cons (ps_expr (pe_bm PySem.F.plainAttrs_list PySem.F.slot_list_append PySem.F.type_list_append mt_append (pv 1) (pa_cons (pv 3) pa_nil)))
  (pss_one (ps_expr (pe_bm PySem.F.plainAttrs_list PySem.F.slot_list_extend PySem.F.type_list_extend mt_extend (pv 2) (pa_cons (pe_revL (L2H.pe_callH (E := fun _ => E0) (hk__inner T) (hr.mono (by decide)) hc (by rfl) T.m__inner T.F__inner.kp T.b__inner (fun _ _ _ _ _ _ _ h => h.elim) (pa_cons (pv 3) pa_nil))) pa_nil))))))))
  (pss_one (ps_ret (pv 1)))))), ?_⟩
  refine ⟨Nat.zero_le _, fun lf nf => ?_⟩
  refine ⟨_, rfl, sz (by show 1 ≤ 10000; decide), fun lw nw => ?_⟩
  have nlw : lw ≠ lf := fun z => by
    rw [z, upd_same] at nw
    cases nw
  have nw0 : H lw = none := by
    rw [upd_ne nlw] at nw
    exact nw
  refine ⟨pInv K H v lf lw p, ⟨_, [], [p], [], [v], none, rfl, ((same_new nf).trans (same_new nw)), ?_, upd_same, .nil, .cons (hp.mono (TS.of ((same_new nf).trans (same_new nw)))) .nil, ?_, rfl⟩, ?_⟩
  · rw [upd_ne nlw.symm]
    exact upd_same
  · rw [subsL_cons, subsL_nil, List.append_nil, List.nil_append]
  rintro m σ H1 ⟨F, W, fs, ws, x, rfl, s1, hf, hw, pf, pw, es, rfl⟩
  cases pw with
  | nil =>
    refine ⟨_, rfl, false, .inl ⟨_, SqL.of hw, rfl⟩, iteF ?_⟩
    refine ⟨_, rfl, ?_⟩
    rw [subsL_nil, List.append_nil] at es
    rw [← es] at pf
    exact q lf fs H1 s1 nf hf pf
  | @cons p1 v1 W' ws' h1 hW =>
    rw [List.reverse_cons] at hw
    refine ⟨_, rfl, true, .inl ⟨_, SqL.of hw, by simp⟩, iteT ?_⟩
    have el : (subsL (p1 :: W')).length = 1 + (subsL (kids p1 ++ W')).length := by
      rw [subsL_cons, subs_eq, subsL_app, List.cons_append, List.length_cons]
      omega
    have tot : F.length + (subsL (p1 :: W')).length ≤ 1000 := by
      have : (subs p).length ≤ 1000 := hz
      rw [es, List.length_append] at this
      exact this
    refine ⟨pInv K H v lf lw p (subsL (kids p1 ++ W')).length, fun σ' H' hI => ⟨_, by rw [el]; omega, hI⟩, ?_⟩
    refine ⟨_, rfl, .inl ⟨rfl, _, SqL.of hw⟩, lw, _, v1, rfl, rfl, hw, last_get _ _, ?_⟩
    rw [List.dropLast_concat]
    have t1 : TS K H1 (upd H1 lw (.lst ws'.reverse)) := TS.lst hw
    refine ⟨_, rfl, p1, v1, rfl, h1.mono t1, _, rfl, iteF ?_⟩
    have hf1 : upd H1 lw (.lst ws'.reverse) lf = some (.lst fs) := by
      rw [upd_ne nlw.symm]
      exact hf
    have lf1 : F.length = fs.length := Paired.length pf
    refine ⟨_, rfl, .inl ⟨rfl, _, SqL.of hf1⟩, _, rfl, lf, fs, v1, rfl, rfl, hf1, szl (by omega), ?_⟩
    have t2 := t1.trans (TS.lst (K := K) (ys := fs ++ [v1]) hf1)
    have hw2 : upd (upd H1 lw (.lst ws'.reverse)) lf (.lst (fs ++ [v1])) lw = some (.lst ws'.reverse) := by
      rw [upd_ne nlw]
      exact upd_same
    refine ⟨_, rfl, .inl ⟨rfl, _, SqL.of hw2⟩, _, rfl, p1, v1, rfl, h1.mono t2, fun r ks H2 s2 nr hr2 hk => ⟨r, ks, rfl, SqL.of hr2, fun r2 nr2 => ?_⟩⟩
    have s3 := s2.trans (same_new (o := .lst ks.reverse) nr2)
    have lk : (kids p1).length = ks.length := Paired.length hk
    have lw1 : W'.length = ws'.length := Paired.length hW
    refine ⟨lw, r2, _, _, rfl, rfl, s3 _ _ hw2, upd_same, ?_, ?_⟩
    · rw [List.length_reverse, List.length_reverse]
      have := subsL_pos (kids p1 ++ W')
      rw [List.length_append] at this
      exact sz (by omega)
    have hwA := s3 _ _ hw2
    have t3 := t2.trans (TS.of (K := K) s3)
    have t4 := t3.trans (TS.lst (K := K) (ys := ws'.reverse ++ ks.reverse) hwA)
    refine ⟨F ++ [p1], kids p1 ++ W', fs ++ [v1], ks ++ ws', some v1, rfl, ?_, ?_, ?_, ?_, ?_, ?_, rfl⟩
    · exact Same.mut (Same.trans (Same.mut (Same.mut s1 nw0) nf) s3) nw0
    · rw [upd_ne nlw.symm]
      exact s3 _ _ upd_same
    · rw [List.reverse_append]
      exact upd_same
    · exact Paired.snoc (PAts.mono t4 pf) (h1.mono t4)
    · exact Paired.app (PAts.mono ((TS.of (same_new nr2)).trans (TS.lst hwA)) hk) (PAts.mono t4 hW)
    · rw [es, subsL_cons, subs_eq, subsL_app]
      simp


end
end G1

set_option maxRecDepth 100000
set_option maxHeartbeats 4000000
namespace G1
open PySem PySem.Spec PyProof.Rows L2 Gm
section
variable {P : Program} {w : World} {K : PySem.W.Frag} {mg : Str → Option Value} {base : Heap}
theorem hk__takings (T : Txt w K mg) : L2H.FnH P w K mg base CX0 2 T.f__takings T.fd__takings ["found"] (sp_takings K) := by
  refine okH T.F__takings sc__takings (fun vs H Q E h => ?_) (fun cdv A outer s H vs Q E pp hot hc hr h => ?_)
  · obtain ⟨L, a, fs, rfl, _⟩ := h
    rfl
  obtain ⟨L, a, fs, rfl, ha, hL, hok, hz, q⟩ := h
  have ll : L.length = fs.length := Paired.length hL
  refine ⟨_, (pss_cons (ps_set (i := 1) sc__takings.nd rfl (.inl rfl) (pe_lst pa_nil))
  (pss_cons (ps_set (i := 2) sc__takings.nd rfl (.inr rfl) (pe_lst pa_nil))
  (pss_cons (ps_forX (passes_of rfl) hot (pix_reversed hot (by rfl) T.n_reversed (pa_cons (pv 0) pa_nil)) (pg_name (i := 3) sc__takings.nd rfl (.inl rfl))
   (pss_cons (ps_setLcX (i := 4) (own := [("_", 6)]) (g := gName 6) (te := tBM0 K "list" rPop (tVar 2)) hot sc__takings.nd rfl rfl (sw_true rfl rfl rfl (by decide +kernel)) (pix_list hot (L2H.pe_callH (E := fun _ => E0) (hk__inner T) (hr.mono (by decide)) hc (by rfl) T.m__inner T.F__inner.kp T.b__inner (fun _ _ _ _ _ _ _ h => h.elim) (pa_cons (pv 3) pa_nil))) (blkOk_by (own := [("_", 6)]) (N := N__takings) (sc := defScope s__takings) (by decide +kernel)) (fun _ _ _ _ _ hB => by exact (pg_name (i := 6) sc__takings.nd rfl (.inl rfl))) (fun _ _ _ _ _ => by exact pts_nil) (fun _ _ _ _ _ => by exact (pe_bm0 PySem.F.plainAttrs_list PySem.F.slot_list_pop PySem.F.type_list_pop mt_pop (pv 2))))
  (pss_cons (ps_set (i := 5) sc__takings.nd rfl (.inl rfl) (L2H.pe_callH (E := fun _ => E0) (hk__may_take_nothing T) (hr.mono (by decide)) hc (by rfl) T.m__may_take_nothing T.F__may_take_nothing.kp T.b__may_take_nothing (fun _ _ _ _ _ _ _ h => h.elim) (pa_cons (pe_ix ix_tup (pv 3) pe_int (fun _ _ => rfl)) (pa_cons (pv 4) pa_nil))))
  (pss_cons (ps_expr (pe_bm PySem.F.plainAttrs_list PySem.F.slot_list_append PySem.F.type_list_append mt_append (pv 2) (pa_cons (pv 5) pa_nil)))
  (pss_one (ps_expr (pe_bm PySem.F.plainAttrs_list PySem.F.slot_list_append PySem.F.type_list_append mt_append (pv 1) (pa_cons (pv 5) pa_nil))))))))
  (pss_one (ps_ret (pe_revL (pv 1))))))), ?_⟩
  refine ⟨Nat.zero_le _, fun lt nt => ?_⟩
  refine ⟨Nat.zero_le _, fun lo no => ?_⟩
  have nlo : lo ≠ lt := fun z => by
    rw [z, upd_same] at no
    cases no
  have no0 : H lo = none := by
    rw [upd_ne nlo] at no
    exact no
  have s0 := (same_new (o := .lst []) nt).trans (same_new (o := .lst []) no)
  refine ⟨_, rfl, a, fs, rfl, s0.seq ha, ?_⟩
  refine ⟨fun i m σ H' => m + i = fs.length ∧ ∃ (x1 x2 x3 : Option V), σ = [some (.ref a), some (.ref lt), some (.ref lo), x1, x2, x3, none] ∧ Same H H' ∧
    H' lt = some (.lst ((tk (L.drop m)).reverse.map V.bl)) ∧ H' lo = some (.lst ((stk (L.drop m)).reverse.map V.bl)), ⟨fs.length, by omega, none, none, none, rfl, s0, ?_, ?_⟩, ?_⟩
  · rw [upd_ne nlo.symm, ← ll, List.drop_length]
    exact upd_same
  · rw [← ll, List.drop_length]
    exact upd_same
  rintro i m σ H1 ⟨em, x1, x2, x3, rfl, s1, ht, ho⟩
  by_cases hi : m = 0
  · left
    refine ⟨by show fs.length ≤ i; omega, ?_⟩
    subst hi
    refine ⟨_, rfl, lt, _, rfl, SqL.of ht, fun r nr => ?_⟩
    refine q r _ (s1.trans (same_new nr)) (s1.free nr) ?_
    rw [upd_same]
    simp
  right
  obtain ⟨k, rfl⟩ : ∃ k, m = k + 1 := ⟨m - 1, by omega⟩
  have hk : fs.length - 1 - i = k := by omega
  refine ⟨⟨by omega, fs, fs[k]'(by omega), s1.seq ha, by rw [hk]; exact List.getElem?_eq_getElem _⟩, fun σ' H' => k + (i + 1) = fs.length ∧ ∃ (x1 x2 x3 : Option V), σ' = [some (.ref a), some (.ref lt), some (.ref lo), x1, x2, x3, none] ∧ Same H H' ∧
    H' lt = some (.lst ((tk (L.drop k)).reverse.map V.bl)) ∧ H' lo = some (.lst ((stk (L.drop k)).reverse.map V.bl)), fun σ' H' hN => ⟨k, by omega, hN⟩, ?_⟩
  rintro v H2 ⟨rfl, hv⟩
  have hv := hv fs (s1.seq ha)
  rw [hk] at hv
  obtain ⟨p, hp, pv⟩ := Paired.at hL hv
  have ed : L.drop k = p :: L.drop (k + 1) := drop_pre hp
  have hokk := okL_drop k hok
  rw [ed] at hokk
  obtain ⟨hlen, _⟩ := hokk
  have lst := stk_le (L.drop (k + 1))
  have ltk := tk_length (L.drop (k + 1))
  rw [List.length_drop] at lst ltk
  obtain ⟨b, wsn, rfl, hb, _⟩ := pv.node
  -- the answers of the inner ones
  refine ⟨_, rfl, p, _, rfl, pv.mono (TS.of s1), fun r ks H3 s3 nr hr3 hks => ⟨r, rfl, ⟨_, SqL.of hr3⟩, fun D nD => ?_⟩⟩
  have lks : (kids p).length = ks.length := Paired.length hks
  have nDlo : lo ≠ D := ne_of_none (s3 _ _ ho) nD
  have nDlt : lt ≠ D := ne_of_none (s3 _ _ ht) nD
  have nDr : r ≠ D := ne_of_none hr3 nD
  have nrlo : r ≠ lo := fun z => by
    rw [z, ho] at nr
    cases nr
  have nrlt : r ≠ lt := fun z => by
    rw [z, ht] at nr
    cases nr
  generalize hS : stk (L.drop (k + 1)) = S at *
  generalize hTK : tk (L.drop (k + 1)) = TK at *
  refine lc_list (K := K) (a := r) (xs := ks) (fun j H' => Same H H' ∧ H' r = some (.lst ks) ∧ H' lt = some (.lst (TK.reverse.map V.bl)) ∧ H' lo = some (.lst ((S.drop j).reverse.map V.bl)) ∧ H' D = some (.lst ((S.take j).map V.bl)))
    ⟨?_, ?_, ?_, ?_, ?_⟩ (fun j H' _ hI => SqL.of hI.2.1) ?_ ?_
  · exact (s1.trans s3).trans (same_new nD)
  · rw [upd_ne nDr]
    exact hr3
  · rw [upd_ne nDlt]
    exact s3 _ _ ht
  · rw [upd_ne nDlo]
    exact s3 _ _ ho
  · rw [List.take_zero]
    exact upd_same
  · rintro j y H4 hj ⟨sa, sb, sc, sd, se⟩
    have jl : j < ks.length := (List.getElem?_eq_some_iff.mp hj).1
    have jS : j < S.length := by omega
    refine ⟨rfl, yes_if ?_⟩
    have eS : S.drop j = S[j] :: S.drop (j + 1) := List.drop_eq_getElem_cons jS
    rw [eS, List.reverse_cons, List.map_append] at sd
    refine ⟨_, rfl, .inl ⟨rfl, _, SqL.of sd⟩, lo, _, .bl S[j], rfl, rfl, sd, last_get _ _, ?_⟩
    show ∃ acc, _
    refine ⟨(S.take j).map V.bl, ?_, ?_, ?_⟩
    · rw [upd_ne nDlo.symm]
      exact se
    · rw [List.length_map, List.length_take]
      exact szl (by omega)
    refine ⟨?_, ?_, ?_, ?_, ?_⟩
    · exact Same.mut (Same.mut sa no0) (s1.free (s3.free nD))
    · rw [upd_ne nDr, upd_ne nrlo]
      exact sb
    · rw [upd_ne nDlt, upd_ne nlo.symm]
      exact sc
    · rw [upd_ne nDlo]
      show upd H4 lo (HO.lst (List.map V.bl (S.drop (j + 1)).reverse ++ [V.bl S[j]]).dropLast) lo = _
      rw [List.dropLast_concat]
      exact upd_same
    · rw [upd_same, ← List.take_append_getElem jS, List.map_append]
      rfl
  · rintro H4 ⟨sa, sb, sc, sd, se⟩
    rw [← lks] at sd se
    have tb := TS.of (K := K) sa _ _ (show SqT K H b _ from hb)
    refine ⟨_, rfl, _, _, _, _, rfl, rfl, tb, at0 rfl, _, rfl, nm p, D, S.take (kids p).length, rfl, SqL.of se, fun H5 s5 => ?_⟩
    have so := s5 _ _ sd
    have st := s5 _ _ sc
    refine ⟨_, rfl, .inl ⟨rfl, _, SqL.of so⟩, _, rfl, lo, _, _, rfl, rfl, so, szl ?_, ?_⟩
    · simp
      omega
    have st2 : upd H5 lo (.lst (((S.drop (kids p).length).reverse.map V.bl) ++ [.bl (mtn (nm p) (S.take (kids p).length))])) lt = some (.lst (TK.reverse.map V.bl)) := by
      rw [upd_ne nlo.symm]
      exact st
    refine ⟨_, rfl, .inl ⟨rfl, _, SqL.of st2⟩, _, rfl, lt, _, _, rfl, rfl, st2, szl ?_, ?_⟩
    · simp
      omega
    refine ⟨by omega, _, _, _, rfl, Same.mut (Same.mut (sa.trans s5) no0) nt, ?_, ?_⟩
    · rw [upd_same, ed]
      show _ = some (HO.lst (List.map V.bl (mtn (nm p) ((stk (L.drop (k + 1))).take (kids p).length) :: tk (L.drop (k + 1))).reverse))
      rw [hS, hTK]
      simp
    · rw [upd_ne nlo, upd_same, ed]
      show _ = some (HO.lst (List.map V.bl (mtn (nm p) ((stk (L.drop (k + 1))).take (kids p).length) :: (stk (L.drop (k + 1))).drop (kids p).length).reverse))
      rw [hS]
      simp

theorem hk__numbers_among (T : Txt w K mg) : L2H.FnH P w K mg base CX0 1 T.f__numbers_among T.fd__numbers_among ["found"] (sp_numbers_among K) := by
  refine okH T.F__numbers_among sc__numbers_among (fun vs H Q E h => ?_) (fun cdv A outer s H vs Q E pp hot hc hr h => ?_)
  · obtain ⟨L, a, fs, rfl, _⟩ := h
    rfl
  obtain ⟨L, a, fs, rfl, ha, hL, hz, q⟩ := h
  have ll : L.length = fs.length := Paired.length hL
  refine ⟨_, (pss_one (ps_ret (pe_lcX (own := [("part", 1)]) (g := gName 1) (te := tOp (rIxT K) (tVar 1) (tC (.int 1))) (tt := tTest (tOp rEq (tOp (rIxT K) (tVar 1) (tC (.int 0))) (tC (.str "group")))) hot sc__numbers_among.nd (pix_list hot (pv 0)) (blkOk_by (own := [("part", 1)]) (N := N__numbers_among) (sc := defScope s__numbers_among) (by decide +kernel)) (fun _ _ _ _ _ hB => by exact (pg_name (i := 1) sc__numbers_among.nd rfl (.inl rfl))) (fun _ _ _ _ _ => by exact (pts_one (pt_cmpR op_eq (pe_ix ix_tup (pv 1) pe_int (fun _ _ => rfl)) pe_str (nomark _)))) (fun _ _ _ _ _ => by exact (pe_ix ix_tup (pv 1) pe_int (fun _ _ => rfl)))))), ?_⟩
  refine ⟨_, rfl, a, rfl, ⟨_, ha⟩, fun D nD => ?_⟩
  refine lc_list (K := K) (a := a) (xs := fs) (fun i H' => Same H H' ∧ H' D = some (.lst ((nums (L.take i)).map V.int))) ⟨same_new nD, by rw [List.take_zero]; exact upd_same⟩ (fun j H' _ hI => hI.1.seq ha) ?_ ?_
  · rintro i v H1 hi ⟨h1, h2⟩
    exact ⟨rfl, nums_turn nD rfl (hL.mono (TS.of h1)) hi h1 hz h2⟩
  · rintro H1 ⟨h1, h2⟩
    rw [← ll, List.take_length] at h2
    exact q D H1 h1 nD h2

theorem hk__has_twins (T : Txt w K mg) : L2H.FnH P w K mg base CX0 1 T.f__has_twins T.fd__has_twins ["many"] (sp_has_twins K) := by
  refine okH T.F__has_twins sc__has_twins (fun vs H Q E h => ?_) (fun cdv A outer s H vs Q E pp hot hc hr h => ?_)
  · obtain ⟨a, ns, rfl, _⟩ := h
    rfl
  obtain ⟨a, ns, rfl, ha, hz, q⟩ := h
  refine ⟨_, (pss_one (ps_ret (pe_cmpR op_lt (pe_lenSetX (by rfl) T.n_len (by rfl) T.n_set (pv 0) hot) (pe_callB call_len_seq (by rfl) T.n_len PySem.boot_len (pa_cons (pv 0) pa_nil)) (nomark _)))), ?_⟩
  refine ⟨_, rfl, a, ns, rfl, ha, by omega, _, rfl, a, _, rfl, .inl ha, _, _, rfl, rfl, ?_⟩
  show Q (.bl (decide ((((firstMet (fun i => ns.getD i 0) ns.length).length : Nat) : Int) < (((ns.map V.int).length : Nat) : Int)))) H
  rw [List.length_map]
  have e : decide ((((firstMet (fun i => ns.getD i 0) ns.length).length : Nat) : Int) < ((ns.length : Nat) : Int)) = decide (¬ ns.Nodup) := by
    rw [Bool.eq_iff_iff, decide_eq_true_iff, decide_eq_true_iff]
    exact twins_iff ns
  rw [e]
  exact q

theorem hk__has_empty_round (T : Txt w K mg) : L2H.FnH P w K mg base CX0 3 T.f__has_empty_round T.fd__has_empty_round ["found"] (sp_has_empty K) := by
  refine okH T.F__has_empty_round sc__has_empty_round (fun vs H Q E h => ?_) (fun cdv A outer s H vs Q E pp hot hc hr h => ?_)
  · obtain ⟨p, a, fs, rfl, _⟩ := h
    rfl
  obtain ⟨p, a, fs, rfl, ha, hL, hz, q⟩ := h
  have ll : (subs p).length = fs.length := Paired.length hL
  have e := stk_subs p []
  rw [List.append_nil] at e
  refine ⟨_, (pss_cons (ps_set (i := 1) sc__has_empty_round.nd rfl (.inr rfl) (L2H.pe_callH (E := fun _ => E0) (hk__takings T) (hr.mono (by decide)) hc (by rfl) T.m__takings T.F__takings.kp T.b__takings (fun _ _ _ _ _ _ _ h => h.elim) (pa_cons (pv 0) pa_nil)))
  (pss_one (ps_ret (pe_callB (cr_anyX hot) (by rfl) T.n_any (by decide +kernel) (pa_cons (pe_lcX (own := [("at", 2), ("part", 3)]) (g := gTup K 2 (gCons (gName 2) (gCons (gName 3) gNil))) (te := tOp (rIxL K) (tVar 1) (tOp (rI0 fun i j => .int (i + j)) (tVar 2) (tC (.int 1)))) (tt := tTest (tOp (rIn K false) (tOp (rIxT K) (tVar 3) (tC (.int 0))) (tTup (tCons (tC (.str "more")) (tCons (tC (.str "less")) tNil))))) hot sc__has_empty_round.nd (pix_enum hot (by rfl) T.n_enumerate (pa_cons (pv 0) pa_nil)) (blkOk_by (own := [("at", 2), ("part", 3)]) (N := N__has_empty_round) (sc := defScope s__has_empty_round) (by decide +kernel)) (fun _ _ _ _ _ hB => by exact (pg_tupH hB (pgs_cons (pg_name (i := 2) sc__has_empty_round.nd rfl (.inl rfl)) (pgs_cons (pg_name (i := 3) sc__has_empty_round.nd rfl (.inl rfl)) pgs_nil)))) (fun _ _ _ _ _ => by exact (pts_one (pt_cmpR op_in_seq (pe_ix ix_tup (pv 3) pe_int (fun _ _ => rfl)) (pe_tup (pa_cons pe_str (pa_cons pe_str pa_nil))) (by rfl)))) (fun _ _ _ _ _ => by exact (pe_ix ix_list (pv 1) (pe_op op_add (pv 2) pe_int) (fun _ _ => rfl)))) pa_nil))))), ?_⟩
  refine ⟨_, rfl, subs p, a, fs, rfl, ha, hL, e.2.2 trivial, hz, fun lt H1 s1 _ ht => ?_⟩
  rw [e.2.1, show tk [] = [] from rfl, List.append_nil] at ht
  refine ⟨_, rfl, a, fs, rfl, s1.seq ha, fun D nD => ?_⟩
  refine lc_it (walk_enum (xs := fs)) (fun i H' => Same H1 H' ∧ H' D = some (.lst ((erl ((subs p).take i)).map V.bl))) ⟨same_new nD, by rw [List.take_zero]; exact upd_same⟩ (fun i H' _ hI => hI.1.seq (s1.seq ha)) ?_ ?_
  · rintro i v H2 H3 hi ⟨s2, hD⟩ ⟨t, _, y, rfl, nt, rfl, ey, hy⟩
    cases ey
    obtain ⟨p1, hp1, pv⟩ := Paired.at hL hy
    have s3 := s2.trans (same_new (o := .tup [.int ((i : Nat) : Int), y]) nt)
    obtain ⟨b, ws, rfl, hb, _⟩ := (pv.mono (TS.of (K := K) (s1.trans s3))).node
    have hD3 : upd H2 t (.tup [.int ((i : Nat) : Int), .ref b]) D = some (.lst ((erl ((subs p).take i)).map V.bl)) := same_new nt _ _ hD
    have el : (erl ((subs p).take i)).length ≤ 1000 := Nat.le_trans (List.length_filterMap_le _ _) (by rw [List.length_take]; have : (subs p).length ≤ 1000 := hz; omega)
    refine ⟨t, _, rfl, SqT.of upd_same, rfl, _, _, rfl, _, _, rfl, rfl, rfl, ?_⟩
    refine ⟨_, rfl, _, _, _, _, rfl, rfl, hb, at0 rfl, sz (by show 2 ≤ 10000; decide), fun t2 n2 => ⟨_, _, rfl, .inr (SqT.of upd_same), rfl, rfl, _, rfl, ?_⟩⟩
    have s4 := s3.trans (same_new (o := .tup [.str "more", .str "less"]) n2)
    have hD4 := same_new (o := .tup [.str "more", .str "less"]) n2 _ _ hD3
    have ht4 := s4 _ _ ht
    rw [erl_take hp1]
    have take : ∀ q, (p1 = .more q ∨ p1 = .less q) → (V.bl (nul q)) = V.bl (nul q) ∧ ((subs p).map nul |>.map V.bl)[i + 1]? = some (.bl (nul q)) := fun q hq => by
      refine ⟨rfl, ?_⟩
      have := next_part' (p := p) (q := q) (i := i) (by rcases hq with rfl | rfl; exact .inl hp1; exact .inr hp1)
      rw [List.getElem?_map, List.getElem?_map, this]
      rfl
    cases p1 with
    | more q1 =>
      refine iteT ?_
      refine ⟨_, rfl, _, rfl, _, _, rfl, rfl, lt, _, _, .bl (nul q1), rfl, rfl, SqL.of ht4, at_of (j := i + 1) (by show ((i : Nat) : Int) + 1 = _; omega) (take q1 (.inl rfl)).2, ?_⟩
      refine ⟨_, hD4, szl (by rw [List.length_map]; omega), Same.mut s4 nD, ?_⟩
      rw [upd_same, List.map_append]
      rfl
    | less q1 =>
      refine iteT ?_
      refine ⟨_, rfl, _, rfl, _, _, rfl, rfl, lt, _, _, .bl (nul q1), rfl, rfl, SqL.of ht4, at_of (j := i + 1) (by show ((i : Nat) : Int) + 1 = _; omega) (take q1 (.inr rfl)).2, ?_⟩
      refine ⟨_, hD4, szl (by rw [List.length_map]; omega), Same.mut s4 nD, ?_⟩
      rw [upd_same, List.map_append]
      rfl
    | _ =>
      refine iteF ⟨s4, ?_⟩
      rw [hD4]
      simp [erl]
  · rintro H2 ⟨s2, hD⟩
    rw [← ll, List.take_length] at hD
    exact ⟨D, _, rfl, SqL.of hD, q H2 (s1.trans s2)⟩

theorem hk_checked (T : Txt w K mg) : L2H.FnH P w K mg base CX0 4 T.f_checked T.fd_checked ["pattern"] (sp_checked K) := by
  refine okH T.F_checked sc_checked (fun vs H Q E h => ?_) (fun cdv A outer s H vs Q E pp hot hc hr h => ?_)
  · obtain ⟨p, v, rfl, _⟩ := h
    rfl
  obtain ⟨p, v, rfl, hp, hz, ⟨g1, g2⟩, q⟩ := h
  refine ⟨_, (pss_cons (ps_set (i := 1) sc_checked.nd rfl (.inl rfl) (L2H.pe_callH (E := fun _ => E0) (hk_parts T) (hr.mono (by decide)) hc (by rfl) T.m_parts T.F_parts.kp T.b_parts (fun _ _ _ _ _ _ _ h => h.elim) (pa_cons (pv 0) pa_nil)))
  (pss_cons (ps_if (pt_val (L2H.pe_callH (E := fun _ => E0) (hk__has_twins T) (hr.mono (by decide)) hc (by rfl) T.m__has_twins T.F__has_twins.kp T.b__has_twins (fun _ _ _ _ _ _ _ h => h.elim) (pa_cons (L2H.pe_callH (E := fun _ => E0) (hk__numbers_among T) (hr.mono (by decide)) hc (by rfl) T.m__numbers_among T.F__numbers_among.kp T.b__numbers_among (fun _ _ _ _ _ _ _ h => h.elim) (pa_cons (pv 1) pa_nil)) pa_nil)))
    (pss_one ps_never)
    pss_nil)
  (pss_cons (ps_if (pt_val (L2H.pe_callH (E := fun _ => E0) (hk__has_empty_round T) (hr.mono (by decide)) hc (by rfl) T.m__has_empty_round T.F__has_empty_round.kp T.b__has_empty_round (fun _ _ _ _ _ _ _ h => h.elim) (pa_cons (pv 1) pa_nil)))
    (pss_one ps_never)
    pss_nil)
  (pss_one (ps_ret (pv 0)))))), ?_⟩
  refine ⟨_, rfl, p, v, rfl, hp, hz, fun r fs H1 s1 _ h1 hf => ?_⟩
  refine ⟨_, rfl, subs p, r, fs, rfl, SqL.of h1, hf, hz, fun r2 H2 s2 n2 h2 => ?_⟩
  refine ⟨r2, nums (subs p), rfl, SqL.of h2, Nat.le_trans (List.length_filterMap_le _ _) hz, ?_⟩
  have e : decide (¬ (nums (subs p)).Nodup) = false := decide_eq_false fun h => h g1
  rw [e]
  refine ⟨_, rfl, iteF ?_⟩
  refine ⟨_, rfl, p, r, fs, rfl, SqL.of (s2 _ _ h1), hf.mono (TS.of s2), hz, fun H3 s3 => ?_⟩
  rw [g2]
  refine ⟨_, rfl, iteF ?_⟩
  exact ⟨_, rfl, q H3 ((s1.trans s2).trans s3)⟩


end
end G1

set_option maxRecDepth 100000
set_option maxHeartbeats 4000000
namespace G1
open PySem PySem.Spec PyProof.Rows L2 Gm
section
variable {P : Program} {w : World} {K : PySem.W.Frag} {mg : Str → Option Value} {base : Heap}
theorem hk_first_state (T : Txt w K mg) : L2H.FnH P w K mg base CX0 1 T.f_first_state T.fd_first_state ["pattern"] (sp_first_state K) := by
  refine okH T.F_first_state sc_first_state (fun vs H Q E h => ?_) (fun cdv A outer s H vs Q E pp hot hc hr h => ?_)
  · obtain ⟨p, v, rfl, _⟩ := h
    rfl
  obtain ⟨p, v, rfl, hp, q⟩ := h
  refine ⟨_, (pss_one (ps_ret (pe_tup (pa_cons (pe_tup (pa_cons (pv 0) pa_nil)) (pa_cons pe_int pa_nil))))), ?_⟩
  refine ⟨_, rfl, sz (by show 1 ≤ 10000; decide), fun t1 n1 => ⟨sz (by show 2 ≤ 10000; decide), fun t2 n2 => ?_⟩⟩
  have s2 := (same_new (o := .tup [v]) n1).trans (same_new (o := .tup [.ref t1, .int 0]) n2)
  exact q t2 _ s2 ⟨t2, .ref t1, rfl, SqT.of upd_same, t1, [v], rfl, TS.of (K := K) (same_new n2) _ _ (SqT.of upd_same), .cons (hp.mono (TS.of s2)) .nil⟩
theorem hk_is_end (T : Txt w K mg) : L2H.FnH P w K mg base CX0 1 T.f_is_end T.fd_is_end ["state", "text"] (sp_is_end K) := by
  refine okH T.F_is_end sc_is_end (fun vs H Q E h => ?_) (fun cdv A outer s H vs Q E pp hot hc hr h => ?_)
  · obtain ⟨x, v, z, rfl, _⟩ := h
    rfl
  obtain ⟨x, v, z, rfl, hx, hg, hz, q⟩ := h
  refine ⟨_, (pss_one (ps_ret (pe_cmpR (op_eqD hr.units) (pv 0) (pe_tup (pa_cons (pe_tup pa_nil) (pa_cons (pe_callB call_len (by rfl) T.n_len PySem.boot_len (pa_cons (pv 1) pa_nil)) pa_nil))) (nomark _)))), ?_⟩
  refine ⟨_, rfl, Nat.zero_le _, fun t1 n1 => ?_⟩
  refine ⟨_, rfl, _, _, rfl, ⟨sz (by omega), rfl⟩, sz (by show 2 ≤ 10000; decide), fun t2 n2 => ?_⟩
  have s2 := (same_new (o := .tup []) n1).trans (same_new (o := .tup [.ref t1, .int ((z.length : Nat) : Int)]) n2)
  have de : Dp K (upd (upd H t1 (.tup [])) t2 (.tup [.ref t1, .int ((z.length : Nat) : Int)])) (.ref t2) (.tuple [.tuple [], .int ((z.length : Nat) : Int)]) :=
    .tup (SqT.of upd_same) (.cons (.tup (TS.of (K := K) (same_new n2) _ _ (SqT.of upd_same)) .nil) (.cons (.int _) .nil))
  have hx2 := hx.mono (TS.of (K := K) s2)
  refine ⟨spd x, _, hx2.dp, de, shaped_of hx2.lay (Nat.le_trans (spd_depth hg) (by decide)), shaped_of (lay_tup (lay_cons (lay_tup lay_nil) (lay_cons (lay_int _) lay_nil))) (by simp [PyData.depth, PyData.depthAll]), ?_⟩
  rw [eqv_end]
  exact q _ s2
theorem hk__takes (T : Txt w K mg) : L2H.FnH P w K mg base CX0 1 T.f__takes T.fd__takes ["thing", "sign"] (sp_takes K) := by
  refine okH T.F__takes sc__takes (fun vs H Q E h => ?_) (fun cdv A outer s H vs Q E pp hot hc hr h => ?_)
  · obtain ⟨p, v, y, rfl, _⟩ := h
    rfl
  obtain ⟨p, v, y, rfl, hp, hs, q⟩ := h
  obtain ⟨a, ws, rfl, ht, _⟩ := hp.node
  refine ⟨_, (pss_cons (ps_if (pt_cmpR op_eq (pe_ix ix_tup (pv 0) pe_int (fun _ _ => rfl)) pe_str (nomark _))
    (pss_one (ps_ret (pe_cmpR op_ne (pv 1) pe_str (nomark _))))
    pss_nil)
  (pss_one (ps_ret (pe_cmpR op_eq (pv 1) (pe_ix ix_tup (pv 0) pe_int (fun _ _ => rfl)) (nomark _))))), ?_⟩
  refine ⟨_, rfl, _, _, _, _, rfl, rfl, ht, at0 rfl, rfl, _, rfl, ?_⟩
  rcases hs with rfl | ⟨c, rfl⟩
  · refine iteT ?_
    exact ⟨_, rfl, rfl, q⟩
  · refine iteF ?_
    exact ⟨_, rfl, _, rfl, _, _, _, _, rfl, rfl, ht, at1 rfl, rfl, q⟩
theorem hk__unfolded (T : Txt w K mg) : L2H.FnH P w K mg base CX0 1 T.f__unfolded T.fd__unfolded ["thing"] (sp_unfolded K) := by
  refine okH T.F__unfolded sc__unfolded (fun vs H Q E h => ?_) (fun cdv A outer s H vs Q E pp hot hc hr h => ?_)
  · obtain ⟨t, v, rfl, _⟩ := h
    rfl
  obtain ⟨t, v, rfl, hv, q⟩ := h
  refine ⟨_, (pss_one (ps_match (pv 0)
   (pm_case2X (i := 1) (j := 2) hot sc__unfolded.nd rfl rfl rfl rfl (pss_one (ps_ret (pe_lst (pa_cons (pe_tup (pa_cons (pv 1) (pa_cons (pv 2) pa_nil))) pa_nil))))
   (pm_case2X (i := 1) (j := 2) hot sc__unfolded.nd rfl rfl rfl rfl (pss_one (ps_ret (pe_lst (pa_cons (pe_tup (pa_cons (pv 1) pa_nil)) (pa_cons (pe_tup (pa_cons (pv 2) pa_nil)) pa_nil)))))
   (pm_case1X (i := 1) hot sc__unfolded.nd rfl rfl (pss_one (ps_ret (pe_lst (pa_cons (pe_tup (pa_cons (pv 1) (pa_cons (pv 0) pa_nil))) (pa_cons (pe_tup pa_nil) pa_nil)))))
   (pm_case1X (i := 1) hot sc__unfolded.nd rfl rfl (pss_one (ps_ret (pe_lst (pa_cons (pe_tup pa_nil) (pa_cons (pe_tup (pa_cons (pv 1) (pa_cons (pv 0) pa_nil))) pa_nil)))))
   (pm_case2X (i := 3) (j := 1) hot sc__unfolded.nd rfl rfl rfl rfl (pss_one (ps_ret (pe_lst (pa_cons (pe_tup (pa_cons (pv 1) (pa_cons (pe_tup (pa_cons pe_str (pa_cons (pv 3) pa_nil))) pa_nil))) pa_nil))))
   (pm_wild (pss_one (ps_ret (pe_lst (pa_cons (pe_tup pa_nil) pa_nil)))))))))))), ?_⟩
  cases t with
  | close n =>
    obtain ⟨a, rfl, ht⟩ := hv
    refine ⟨_, rfl, a, _, _, rfl, ht, .inr ⟨.inl (by decide +kernel), a, _, _, rfl, ht, .inr ⟨.inl (by decide +kernel), a, _, _, rfl, ht, .inr ⟨.inl (by decide +kernel), a, _, _, rfl, ht, .inr ⟨.inl (by decide +kernel), a, _, _, rfl, ht, .inr ⟨.inl (by decide +kernel), ?_⟩⟩⟩⟩⟩⟩
    refine ⟨Nat.zero_le _, fun t1 n1 => ⟨sz (by show 1 ≤ 10000; decide), fun r nr => ?_⟩⟩
    exact q r _ _ ((same_new n1).trans (same_new nr)) ((same_new n1).free nr) upd_same (.cons ⟨t1, [], rfl, TS.of (K := K) (same_new nr) _ _ (SqT.of upd_same), .nil⟩ .nil)
  | pat p =>
    cases p with
    | row p1 p2 =>
      obtain ⟨a, x, y, rfl, ht, u1, u2⟩ := hv
      refine ⟨_, rfl, a, _, _, rfl, ht, .inl ⟨rfl, rfl, x, y, rfl, ?_⟩⟩
      refine ⟨_, rfl, _, rfl, sz (by show 2 ≤ 10000; decide), fun t1 n1 => ⟨sz (by show 1 ≤ 10000; decide), fun r nr => ?_⟩⟩
      have s2 := (same_new (o := .tup [x, y]) n1).trans (same_new (o := .lst [.ref t1]) nr)
      exact q r _ _ s2 ((same_new n1).free nr) upd_same (.cons ⟨t1, _, rfl, TS.of (K := K) (same_new nr) _ _ (SqT.of upd_same), .cons (u1.mono (TS.of s2)) (.cons (u2.mono (TS.of s2)) .nil)⟩ .nil)
    | or p1 p2 =>
      obtain ⟨a, x, y, rfl, ht, u1, u2⟩ := hv
      refine ⟨_, rfl, a, _, _, rfl, ht, .inr ⟨.inl (by decide +kernel), a, _, _, rfl, ht, .inl ⟨rfl, rfl, x, y, rfl, ?_⟩⟩⟩
      refine ⟨_, rfl, sz (by show 1 ≤ 10000; decide), fun t1 n1 => ⟨_, rfl, sz (by show 1 ≤ 10000; decide), fun t2 n2 => ⟨sz (by show 2 ≤ 10000; decide), fun r nr => ?_⟩⟩⟩
      have s2 := (same_new (o := .tup [y]) n2).trans (same_new (o := .lst [.ref t1, .ref t2]) nr)
      have s3 := (same_new (o := .tup [x]) n1).trans s2
      exact q r _ _ s3 (((same_new n1).trans (same_new n2)).free nr) upd_same (.cons ⟨t1, _, rfl, TS.of (K := K) s2 _ _ (SqT.of upd_same), .cons (u1.mono (TS.of s3)) .nil⟩ (.cons ⟨t2, _, rfl, TS.of (K := K) (same_new nr) _ _ (SqT.of upd_same), .cons (u2.mono (TS.of s3)) .nil⟩ .nil))
    | more p1 =>
      have hv' : PAt K H (.more p1) v := hv
      obtain ⟨a, x, rfl, ht, u1⟩ := hv
      refine ⟨_, rfl, a, _, _, rfl, ht, .inr ⟨.inl (by decide +kernel), a, _, _, rfl, ht, .inr ⟨.inl (by decide +kernel), a, _, _, rfl, ht, .inl ⟨rfl, rfl, x, rfl, ?_⟩⟩⟩⟩
      refine ⟨_, rfl, _, rfl, sz (by show 2 ≤ 10000; decide), fun t1 n1 => ⟨Nat.zero_le _, fun t2 n2 => ⟨sz (by show 2 ≤ 10000; decide), fun r nr => ?_⟩⟩⟩
      have s2 := (same_new (o := .tup []) n2).trans (same_new (o := .lst [.ref t1, .ref t2]) nr)
      have s3 := (same_new (o := .tup [x, .ref a]) n1).trans s2
      exact q r _ _ s3 (((same_new n1).trans (same_new n2)).free nr) upd_same (.cons ⟨t1, _, rfl, TS.of (K := K) s2 _ _ (SqT.of upd_same), .cons (u1.mono (TS.of s3)) (.cons (hv'.mono (TS.of s3)) .nil)⟩ (.cons ⟨t2, _, rfl, TS.of (K := K) (same_new nr) _ _ (SqT.of upd_same), .nil⟩ .nil))
    | less p1 =>
      have hv' : PAt K H (.less p1) v := hv
      obtain ⟨a, x, rfl, ht, u1⟩ := hv
      refine ⟨_, rfl, a, _, _, rfl, ht, .inr ⟨.inl (by decide +kernel), a, _, _, rfl, ht, .inr ⟨.inl (by decide +kernel), a, _, _, rfl, ht, .inr ⟨.inl (by decide +kernel), a, _, _, rfl, ht, .inl ⟨rfl, rfl, x, rfl, ?_⟩⟩⟩⟩⟩
      refine ⟨Nat.zero_le _, fun t1 n1 => ⟨_, rfl, _, rfl, sz (by show 2 ≤ 10000; decide), fun t2 n2 => ⟨sz (by show 2 ≤ 10000; decide), fun r nr => ?_⟩⟩⟩
      have s2 := (same_new (o := .tup [x, .ref a]) n2).trans (same_new (o := .lst [.ref t1, .ref t2]) nr)
      have s3 := (same_new (o := .tup []) n1).trans s2
      exact q r _ _ s3 (((same_new n1).trans (same_new n2)).free nr) upd_same (.cons ⟨t1, _, rfl, TS.of (K := K) s2 _ _ (SqT.of upd_same), .nil⟩ (.cons ⟨t2, _, rfl, TS.of (K := K) (same_new nr) _ _ (SqT.of upd_same), .cons (u1.mono (TS.of s3)) (.cons (hv'.mono (TS.of s3)) .nil)⟩ .nil))
    | group n p1 =>
      obtain ⟨a, x, rfl, hn, ht, u1⟩ := hv
      refine ⟨_, rfl, a, _, _, rfl, ht, .inr ⟨.inl (by decide +kernel), a, _, _, rfl, ht, .inr ⟨.inl (by decide +kernel), a, _, _, rfl, ht, .inr ⟨.inl (by decide +kernel), a, _, _, rfl, ht, .inr ⟨.inl (by decide +kernel), a, _, _, rfl, ht, .inl ⟨rfl, rfl, .int n, x, rfl, ?_⟩⟩⟩⟩⟩⟩
      refine ⟨_, rfl, _, rfl, sz (by show 2 ≤ 10000; decide), fun t1 n1 => ⟨sz (by show 2 ≤ 10000; decide), fun t2 n2 => ⟨sz (by show 1 ≤ 10000; decide), fun r nr => ?_⟩⟩⟩
      have s2 := (same_new (o := .tup [x, .ref t1]) n2).trans (same_new (o := .lst [.ref t2]) nr)
      have s3 := (same_new (o := .tup [.str "close", .int n]) n1).trans s2
      exact q r _ _ s3 (((same_new n1).trans (same_new n2)).free nr) upd_same (.cons ⟨t2, _, rfl, TS.of (K := K) (same_new nr) _ _ (SqT.of upd_same), .cons (u1.mono (TS.of s3)) (.cons ⟨t1, rfl, TS.of (K := K) s2 _ _ (SqT.of upd_same)⟩ .nil)⟩ .nil)
    | sign c =>
      obtain ⟨a, ws, rfl, ht, _⟩ := PAt.node hv
      refine ⟨_, rfl, a, _, _, rfl, ht, .inr ⟨.inl (show ("sign" : Str) ≠ "row" by decide +kernel), a, _, _, rfl, ht, .inr ⟨.inl (show ("sign" : Str) ≠ "or" by decide +kernel), a, _, _, rfl, ht, .inr ⟨.inl (show ("sign" : Str) ≠ "more" by decide +kernel), a, _, _, rfl, ht, .inr ⟨.inl (show ("sign" : Str) ≠ "less" by decide +kernel), a, _, _, rfl, ht, .inr ⟨.inl (show ("sign" : Str) ≠ "group" by decide +kernel), ?_⟩⟩⟩⟩⟩⟩
      refine ⟨Nat.zero_le _, fun t1 n1 => ⟨sz (by show 1 ≤ 10000; decide), fun r nr => ?_⟩⟩
      exact q r _ _ ((same_new n1).trans (same_new nr)) ((same_new n1).free nr) upd_same (.cons ⟨t1, [], rfl, TS.of (K := K) (same_new nr) _ _ (SqT.of upd_same), .nil⟩ .nil)
    | _ =>
      obtain ⟨a, ws, rfl, ht, _⟩ := PAt.node hv
      refine ⟨_, rfl, a, _, _, rfl, ht, .inr ⟨.inl (by decide +kernel), a, _, _, rfl, ht, .inr ⟨.inl (by decide +kernel), a, _, _, rfl, ht, .inr ⟨.inl (by decide +kernel), a, _, _, rfl, ht, .inr ⟨.inl (by decide +kernel), a, _, _, rfl, ht, .inr ⟨.inl (by decide +kernel), ?_⟩⟩⟩⟩⟩⟩
      refine ⟨Nat.zero_le _, fun t1 n1 => ⟨sz (by show 1 ≤ 10000; decide), fun r nr => ?_⟩⟩
      exact q r _ _ ((same_new n1).trans (same_new nr)) ((same_new n1).free nr) upd_same (.cons ⟨t1, [], rfl, TS.of (K := K) (same_new nr) _ _ (SqT.of upd_same), .nil⟩ .nil)

theorem hk_onward (T : Txt w K mg) : L2H.FnH P w K mg base CX0 2 T.f_onward T.fd_onward ["state", "text"] (sp_onward K) := by
  refine okH T.F_onward sc_onward (fun vs H Q E h => ?_) (fun cdv A outer s H vs Q E pp hot hc hr h => ?_)
  · obtain ⟨x, v, z, rfl, _⟩ := h
    rfl
  obtain ⟨⟨rs, k⟩, v, z, rfl, ⟨a, y, rfl, hs, ⟨b, ts, rfl, hb, pts⟩⟩, hl, hk, hz, q⟩ := h
  refine ⟨_, (pss_cons (ps_asg (pv 0) (pg_tupH hot (pgs_cons (pg_name (i := 2) sc_onward.nd rfl (.inl rfl)) (pgs_cons (pg_name (i := 3) sc_onward.nd rfl (.inr rfl)) pgs_nil))))
  (pss_cons (ps_if (pt_not (pt_truth (pv 2) (by intro _; rfl)))
    (pss_one (ps_ret (pe_lst pa_nil)))
    pss_nil)
  (pss_cons (ps_asg (pe_tup (pa_cons (pe_ix ix_tup (pv 2) pe_int (fun _ _ => rfl)) (pa_cons (pe_slice sl_tupA (pv 2) (po_some pe_int) po_none) pa_nil))) (pg_tupH hot (pgs_cons (pg_name (i := 4) sc_onward.nd rfl (.inl rfl)) (pgs_cons (pg_name (i := 5) sc_onward.nd rfl (.inr rfl)) pgs_nil))))
  (pss_cons (ps_if (pt_cmpR op_in_seq (pe_ix ix_tup (pv 4) pe_int (fun _ _ => rfl)) (pe_tup (pa_cons pe_str (pa_cons pe_str pa_nil))) (by rfl))
    (pss_one (ps_ret (pe_ifExp (pt_val (L2H.pe_callH (E := fun _ => E0) (hk__takes T) (hr.mono (by decide)) hc (by rfl) T.m__takes T.F__takes.kp T.b__takes (fun _ _ _ _ _ _ _ h => h.elim) (pa_cons (pv 4) (pa_cons (pe_slice sl_str (pv 1) (po_some (pv 3)) (po_some (pe_op op_add (pv 3) pe_int))) pa_nil)))) (pe_lst (pa_cons (pe_tup (pa_cons (pv 5) (pa_cons (pe_op op_add (pv 3) pe_int) pa_nil))) pa_nil)) (pe_lst pa_nil))))
    pss_nil)
  (pss_one (ps_ret (pe_lcX (own := [("ahead", 6)]) (g := gName 6) (te := tTup (tCons (tOp (rCatA K) (tVar 6) (tVar 5)) (tCons (tVar 3) tNil))) hot sc_onward.nd (pix_list hot (L2H.pe_callH (E := fun _ => E0) (hk__unfolded T) (hr.mono (by decide)) hc (by rfl) T.m__unfolded T.F__unfolded.kp T.b__unfolded (fun _ _ _ _ _ _ _ h => h.elim) (pa_cons (pv 4) pa_nil))) (blkOk_by (own := [("ahead", 6)]) (N := N_onward) (sc := defScope s_onward) (by decide +kernel)) (fun _ _ _ _ _ hB => by exact (pg_name (i := 6) sc_onward.nd rfl (.inl rfl))) (fun _ _ _ _ _ => by exact pts_nil) (fun _ _ _ _ _ => by exact (pe_tup (pa_cons (pe_op op_catA (pv 6) (pv 5)) (pa_cons (pv 3) pa_nil))))))))))), ?_⟩
  refine ⟨_, rfl, a, _, rfl, hs, rfl, _, _, rfl, _, _, rfl, rfl, ?_⟩
  cases pts with
  | nil =>
    refine ⟨_, rfl, false, .inr (.inl ⟨_, hb, rfl⟩), iteT ?_⟩
    exact ⟨Nat.zero_le _, fun r nr => q r _ _ (same_new nr) nr upd_same .nil⟩
  | @cons t tv R vR ht pR =>
    refine ⟨_, rfl, true, .inr (.inl ⟨_, hb, rfl⟩), iteF ?_⟩
    refine ⟨_, rfl, _, _, _, _, rfl, rfl, hb, at0 rfl, _, rfl, _, rfl, b, _, rfl, hb, fun h => absurd h (not_whole _ _), fun _ bb nbb => ?_⟩
    rw [cut_tail]
    refine ⟨sz (by show 2 ≤ 10000; decide), fun tp ntp => ⟨tp, _, rfl, SqT.of upd_same, rfl, _, _, rfl, _, _, rfl, rfl, ?_⟩⟩
    have s2 := (same_new (o := .tup vR) nbb).trans (same_new (o := .tup [tv, .ref bb]) ntp)
    have hbb : SqT K (upd (upd H bb (.tup vR)) tp (.tup [tv, .ref bb])) bb vR := TS.of (K := K) (same_new ntp) _ _ (SqT.of upd_same)
    obtain ⟨c, ws, rfl, hc⟩ := TAt.node ht
    have hc2 := TS.of (K := K) s2 _ _ hc
    have ht2 := ht.mono (TS.of (K := K) s2)
    have pR2 := TAts.mono (TS.of (K := K) s2) pR
    refine ⟨_, rfl, _, _, _, _, rfl, rfl, hc2, at0 rfl, sz (by show 2 ≤ 10000; decide), fun t1 n1 => ⟨_, _, rfl, .inr (SqT.of upd_same), rfl, rfl, _, rfl, ?_⟩⟩
    have s3 := s2.trans (same_new (o := .tup [.str "sign", .str "any"]) n1)
    have s23 := same_new (o := .tup [.str "sign", .str "any"]) n1
    have lR : R.length = vR.length := Paired.length pR
    rw [List.length_cons] at hl
    have gone : (∃ p, t = .pat p ∧ (p = .any ∨ ∃ c, p = .sign c)) ∨ ((∀ c, t ≠ .pat (.sign c)) ∧ t ≠ .pat .any ∧ ¬ (tnm t = "sign" ∨ tnm t = "any")) := by
      cases t with
      | close n => exact .inr ⟨fun c e => (nomatch e), fun e => (nomatch e), show ¬ (("close" : Str) = "sign" ∨ ("close" : Str) = "any") by decide +kernel⟩
      | pat p =>
        cases p with
        | sign c => exact .inl ⟨_, rfl, .inr ⟨c, rfl⟩⟩
        | any => exact .inl ⟨_, rfl, .inl rfl⟩
        | none => exact .inr ⟨fun c e => (nomatch e), fun e => (nomatch e), show ¬ (("none" : Str) = "sign" ∨ ("none" : Str) = "any") by decide +kernel⟩
        | row p q => exact .inr ⟨fun c e => (nomatch e), fun e => (nomatch e), show ¬ (("row" : Str) = "sign" ∨ ("row" : Str) = "any") by decide +kernel⟩
        | or p q => exact .inr ⟨fun c e => (nomatch e), fun e => (nomatch e), show ¬ (("or" : Str) = "sign" ∨ ("or" : Str) = "any") by decide +kernel⟩
        | more p => exact .inr ⟨fun c e => (nomatch e), fun e => (nomatch e), show ¬ (("more" : Str) = "sign" ∨ ("more" : Str) = "any") by decide +kernel⟩
        | less p => exact .inr ⟨fun c e => (nomatch e), fun e => (nomatch e), show ¬ (("less" : Str) = "sign" ∨ ("less" : Str) = "any") by decide +kernel⟩
        | group n p => exact .inr ⟨fun c e => (nomatch e), fun e => (nomatch e), show ¬ (("group" : Str) = "sign" ∨ ("group" : Str) = "any") by decide +kernel⟩
    rw [inV2]
    rcases gone with ⟨p, rfl, hp⟩ | ⟨g1, g2, g3⟩
    · have ey : tnm (.pat p) = "sign" ∨ tnm (.pat p) = "any" := by
        rcases hp with rfl | ⟨c, rfl⟩
        · exact .inr rfl
        · exact .inl rfl
      refine ite2 (fun _ => ?_) (fun e => absurd (decide_eq_true ey) e)
      refine ⟨_, rfl, _, rfl, _, rfl, _, rfl, _, rfl, _, _, rfl, rfl, _, rfl, z, rfl, sz (by omega), ?_⟩
      rw [cut_one]
      refine ⟨p, _, _, rfl, (ht.mono (TS.of s3)), hp, _, rfl, ?_⟩
      have sp : (takes p ⟨((z.cps.toList[k]?).toList).toArray⟩ = true ∧ step z.cps.toList (.pat p :: R, k) = [(R, k + 1)]) ∨ (takes p ⟨((z.cps.toList[k]?).toList).toArray⟩ = false ∧ step z.cps.toList (.pat p :: R, k) = []) := by
        rcases hp with rfl | ⟨c0, rfl⟩
        · show ((!decide (V.str _ = V.str "")) = true ∧ (if k < z.cps.toList.length then [(R, k + 1)] else []) = [(R, k + 1)]) ∨ ((!decide (V.str _ = V.str "")) = false ∧ (if k < z.cps.toList.length then [(R, k + 1)] else [] : List Sta) = [])
          by_cases h : k < z.cps.toList.length
          · left
            rw [if_pos h, List.getElem?_eq_getElem h]
            refine ⟨?_, rfl⟩
            rw [decide_eq_false]
            · rfl
            · intro e
              have e' := congrArg (fun s : Str => s.cps.size) (V.str.inj e)
              exact absurd e' (by show ¬ (1 = 0); decide)
          · right
            rw [if_neg h, List.getElem?_eq_none (by omega)]
            exact ⟨rfl, rfl⟩
        · show (decide (V.str _ = V.str ⟨#[c0]⟩) = true ∧ (if z.cps.toList[k]? = some c0 then [(R, k + 1)] else []) = [(R, k + 1)]) ∨ (decide (V.str _ = V.str ⟨#[c0]⟩) = false ∧ (if z.cps.toList[k]? = some c0 then [(R, k + 1)] else [] : List Sta) = [])
          by_cases h : z.cps.toList[k]? = some c0
          · left
            rw [if_pos h, h]
            exact ⟨decide_eq_true rfl, rfl⟩
          · right
            rw [if_neg h]
            refine ⟨decide_eq_false fun e => h ?_, rfl⟩
            have e' := congrArg (fun s : Str => s.cps.toList) (V.str.inj e)
            cases ez : z.cps.toList[k]? with
            | none =>
              rw [ez] at e'
              exact absurd e' (by simp)
            | some d =>
              rw [ez] at e'
              simp at e'
              rw [e']
      rcases sp with ⟨e1, e2⟩ | ⟨e1, e2⟩
      · rw [e1]
        refine iteT ?_
        refine ⟨_, rfl, _, rfl, _, _, rfl, rfl, sz (by show 2 ≤ 10000; decide), fun t2 n2 => ⟨sz (by show 1 ≤ 10000; decide), fun r nr => ?_⟩⟩
        have s5 := s23.trans ((same_new (o := .tup [.ref bb, .int ((k : Int) + 1)]) n2).trans (same_new (o := .lst [.ref t2]) nr))
        refine q r _ _ (s2.trans s5) (s3.free ((same_new n2).free nr)) upd_same ?_
        rw [e2]
        refine .cons ⟨t2, .ref bb, rfl, ?_, bb, vR, rfl, TS.of (K := K) s5 _ _ hbb, TAts.mono (TS.of (K := K) s5) pR2⟩ .nil
        exact TS.of (K := K) (same_new nr) _ _ (SqT.of upd_same)
      · rw [e1]
        refine iteF ?_
        refine ⟨Nat.zero_le _, fun r nr => ?_⟩
        refine q r _ _ (s3.trans (same_new nr)) (s3.free nr) upd_same ?_
        rw [e2]
        exact .nil
    · refine ite2 (fun e => absurd (of_decide_eq_true e) g3) (fun _ => ?_)
      refine ⟨_, rfl, t, _, rfl, ht.mono (TS.of s3), fun lu us H4 s4 nu hu pu => ⟨lu, rfl, ⟨_, SqL.of hu⟩, fun D nD => ?_⟩⟩
      have s34 := s23.trans s4
      refine lc_list (K := K) (a := lu) (xs := us) (fun i H' => Same H4 H' ∧ ∃ acc, H' D = some (.lst acc) ∧ SAts K H' (((unf t).take i).map fun a => ((a ++ R, k) : Sta)) acc ∧ acc.length ≤ i) ⟨same_new nD, [], upd_same, .nil, Nat.le_refl _⟩ (fun j H' _ hI => SqL.of (hI.1 _ _ hu)) ?_ ?_
      · rintro i v' H5 hi ⟨s5, acc, hD, pa, la⟩
        obtain ⟨l, hl', ⟨bl, vl, rfl, hbl, pl⟩⟩ := Paired.at pu hi
        have lu2 : (unf t).length = us.length := Paired.length pu
        have li : i < us.length := (List.getElem?_eq_some_iff.mp hi).1
        have hul : (unf t).length ≤ 2 := by
          cases t with
          | close n => exact Nat.le_succ _
          | pat p => cases p <;> simp [unf]
        have ll : l.length ≤ 2 := (unf_gd (Nat.le_refl _) l (List.mem_of_getElem? hl')).2
        have lvl : l.length = vl.length := Paired.length pl
        refine ⟨rfl, yes_if ?_⟩
        refine ⟨_, rfl, _, rfl, ?_⟩
        have sA := s34.trans s5
        refine r_catA (TS.of (K := K) s5 _ _ hbl) (TS.of (K := K) sA _ _ hbb) (sz (by omega)) (fun cc H6 s6 hcc => ?_)
        refine ⟨_, rfl, sz (by show 2 ≤ 10000; decide), fun t2 n2 => ?_⟩
        have s56 := s6.trans (same_new (o := .tup [.ref cc, .int (k : Int)]) n2)
        refine ⟨acc, s56 _ _ hD, szl (by omega), ?_⟩
        have hD7 := s56 _ _ hD
        have nDt2 : H4 D = none := nD
        refine ⟨Same.mut (s5.trans s56) nD, acc ++ [.ref t2], upd_same, ?_, by rw [List.length_append, List.length_singleton]; omega⟩
        rw [take_map hl']
        have t67 : TS K H6 _ := (TS.new (K := K) (o := .tup [.ref cc, .int (k : Int)]) n2).trans (TS.lst (K := K) (ys := acc ++ [.ref t2]) hD7)
        refine Paired.snoc (SAts.mono ((TS.of s56).trans (TS.lst hD7)) pa) ⟨t2, .ref cc, rfl, TS.lst hD7 _ _ (SqT.of upd_same), cc, _, rfl, t67 _ _ hcc, ?_⟩
        exact Paired.app (TAts.mono ((TS.of (s5.trans s6)).trans t67) pl) (TAts.mono ((TS.of (sA.trans s6)).trans t67) pR2)
      · rintro H5 ⟨s5, acc, hD, pa, la⟩
        have lu2 : (unf t).length = us.length := Paired.length pu
        rw [← lu2, List.take_length] at pa
        refine q D acc H5 (s2.trans (s34.trans s5)) ((s2.trans s34).free nD) hD ?_
        rw [step_unf g1 g2]
        exact pa


end
end G1

set_option maxRecDepth 100000
set_option maxHeartbeats 4000000
namespace G1
open PySem PySem.Spec PyProof.Rows L2 Gm
section
variable {P : Program} {w : World} {K : PySem.W.Frag} {mg : Str → Option Value} {base : Heap}
theorem hk__is_choice (T : Txt w K mg) : L2H.FnH P w K mg base CX0 1 T.f__is_choice T.fd__is_choice ["thing"] (sp_is_choice K) := by
  refine okH T.F__is_choice sc__is_choice (fun vs H Q E h => ?_) (fun cdv A outer s H vs Q E pp hot hc hr h => ?_)
  · obtain ⟨y, t, rfl, _⟩ := h
    rfl
  obtain ⟨y, t, rfl, ht, q⟩ := h
  refine ⟨_, (pss_one (ps_ret (pe_and (pe_cmpR (op_eqTyG TypeEq.meta_int) (pe_callTy call_type1 (by rfl) T.n_type (by decide +kernel) (pa_cons (pv 0) pa_nil)) (pe_bltn (v := .ty "int") (by rfl) T.n_int (by decide +kernel) rfl) (nomark _)) (pe_one (pe_cmpR op_in_seq (pv 0) (pe_tup (pa_cons pe_int (pa_cons pe_int pa_nil))) (by rfl)))))), ?_⟩
  refine ⟨_, rfl, _, _, rfl, (ht.kt (K := K)).ty, _, rfl, (ht.kt (K := K)).meta, rfl, _, rfl, ?_⟩
  cases ht with
  | int i =>
    refine iteT ?_
    refine ⟨_, rfl, sz (by show 2 ≤ 10000; decide), fun t n => ?_⟩
    refine ⟨t, [.int 0, .int 1], rfl, .inr (SqT.of upd_same), rfl, rfl, ?_⟩
    have e : inV (.int i) [.int 0, .int 1] = isC (.int i) := by
      show _ = (decide (i = 0) || decide (i = 1))
      by_cases h0 : i = 0
      · subst h0; rfl
      · by_cases h1 : i = 1
        · subst h1; rfl
        · rw [decide_eq_false h0, decide_eq_false h1]
          simp [inV, eqV, Ne.symm h0, Ne.symm h1]
    show Q (.bl (inV (.int i) [.int 0, .int 1])) _
    rw [e]
    exact q _ (same_new n)
  | _ => exact iteF (q _ (Same.refl _))
theorem hk__followed (T : Txt w K mg) : L2H.FnH P w K mg base (L2.CX P w) 2 T.f__followed T.fd__followed ["following", "left"] (sp_followed T) := by
  refine okH T.F__followed sc__followed (fun vs H Q E h => ?_) (fun cdv A outer s H vs Q E pp hot hc hr h => ?_)
  · obtain ⟨a, l, gv, ls, rfl, _⟩ := h
    rfl
  obtain ⟨a, l, gv, ls, rfl, ha, hal, hl, h⟩ := h
  refine ⟨_, (pss_cons (ps_if (pt_not (pt_truth (pv 0) (by intro _; rfl)))
    (pss_one (L2H.ps_raiseH hc (L2.takes_of rfl rfl rfl rfl) (L2N.pmk_own PySem.F.excBase_ValueError T.x_BadWay T.g_BadWay T.k_BadWay (raises_own T.b_BadWay T.t_BadWay) (by exact rfl))))
    pss_nil)
  (pss_cons (ps_if (pt_cmpR op_eq (pe_callB call_len_seq (by rfl) T.n_len PySem.boot_len (pa_cons (pv 0) pa_nil)) pe_int (nomark _))
    (pss_one (ps_ret (pe_ix ix_list (pv 0) pe_int (fun _ _ => rfl))))
    pss_nil)
  (pss_cons (ps_if (pt_not (pt_truth (pv 1) (by intro _; rfl)))
    (pss_one (L2H.ps_raiseH hc (L2.takes_of rfl rfl rfl rfl) (L2N.pmk_own PySem.F.excBase_ValueError T.x_BadWay T.g_BadWay T.k_BadWay (raises_own T.b_BadWay T.t_BadWay) (by exact rfl))))
    pss_nil)
  (pss_cons (ps_set (i := 2) sc__followed.nd rfl (.inl rfl) (pe_bm0 PySem.F.plainAttrs_list PySem.F.slot_list_pop PySem.F.type_list_pop mt_pop (pv 1)))
  (pss_cons (ps_if (pt_not (pt_val (L2H.pe_callH (E := fun _ => E0) (hk__is_choice T) (hr.mono (by decide)) hc (by rfl) T.m__is_choice T.F__is_choice.kp T.b__is_choice (fun _ _ _ _ _ _ _ h => h.elim) (pa_cons (pv 2) pa_nil))))
    (pss_one (L2H.ps_raiseH hc (L2.takes_of rfl rfl rfl rfl) (L2N.pmk_own PySem.F.excBase_ValueError T.x_BadWay T.g_BadWay T.k_BadWay (raises_own T.b_BadWay T.t_BadWay) (by exact rfl))))
    pss_nil)
  (pss_one (ps_ret (pe_ix ix_list (pv 0) (pv 2) (fun _ _ => rfl))))))))), ?_⟩
  rcases h with ⟨rfl, e⟩ | ⟨g, rfl, q⟩ | ⟨g0, g1, rfl, h⟩
  · exact ⟨_, rfl, false, .inl ⟨_, SqL.of ha, rfl⟩, iteT e⟩
  · refine ⟨_, rfl, true, .inl ⟨_, SqL.of ha, by simp⟩, iteF ?_⟩
    refine ⟨_, rfl, a, _, rfl, .inl (SqL.of ha), rfl, _, rfl, iteT ?_⟩
    exact ⟨_, rfl, a, _, _, _, rfl, rfl, SqL.of ha, at0 rfl, q⟩
  · refine ⟨_, rfl, true, .inl ⟨_, SqL.of ha, by simp⟩, iteF ?_⟩
    refine ⟨_, rfl, a, _, rfl, .inl (SqL.of ha), rfl, _, rfl, iteF ?_⟩
    rcases h with ⟨rfl, e⟩ | ⟨ls', y, t, rfl, ht, qn, qy⟩
    · exact ⟨_, rfl, false, .inl ⟨_, SqL.of hl, rfl⟩, iteT e⟩
    refine ⟨_, rfl, true, .inl ⟨_, SqL.of hl, by simp⟩, iteF ?_⟩
    refine ⟨_, rfl, .inl ⟨rfl, _, SqL.of hl⟩, l, _, y, rfl, rfl, hl, last_get _ _, ?_⟩
    rw [List.dropLast_concat]
    refine ⟨_, rfl, y, t, rfl, ht, fun H2 s2 => ⟨_, rfl, ?_⟩⟩
    cases hc : isC y with
    | false => exact iteT (qn hc H2 s2)
    | true =>
      refine iteF ?_
      obtain ⟨c, rfl, hc1⟩ := isC_nat hc
      have ha2 := s2 _ _ (show upd H l (.lst ls') a = some (.lst [g0, g1]) by rw [upd_ne hal]; exact ha)
      obtain ⟨x, hx⟩ : ∃ x, [g0, g1][c]? = some x := by
        match c, hc1 with
        | 0, _ => exact ⟨_, rfl⟩
        | 1, _ => exact ⟨_, rfl⟩
      exact ⟨_, rfl, _, rfl, a, _, _, x, rfl, rfl, SqL.of ha2, atI_nat hx, qy c x rfl hc1 hx H2 s2⟩
theorem hk_walk (T : Txt w K mg) : L2H.FnH P w K mg base (L2.CX P w) 5 T.f_walk T.fd_walk ["pattern", "text", "way"] (sp_walk T) := by
  refine okH T.F_walk sc_walk (fun vs H Q E h => ?_) (fun cdv A outer s H vs Q E pp hot hc hr h => ?_)
  · obtain ⟨p, v, z, a, ws, L, rfl, _⟩ := h
    rfl
  obtain ⟨p, v, z, a, ys0, R0, rfl, hp, hsz, hd, hg, hz, ha, hy, htr, q, qe⟩ := h
  have hn := hg.nr
  obtain ⟨Tm, hT⟩ := cost_ex hn z.cps.toList
  have okz : ∀ {st : Sta}, SOk p z.cps.toList st → st.1.length ≤ 1000 ∧ st.2 ≤ z.length ∧ gd 50 st.1 := fun {st} h => by
    have h1 := allr_ok hn _ h.1
    have h2 := h1.len
    have h3 := h.2
    rw [str_len] at h3
    exact ⟨by omega, h3, fun t ht => Nat.le_trans (h1.gd t ht) hd⟩
  refine ⟨_, (pss_cons (ps_set (i := 3) sc_walk.nd rfl (.inl rfl) (pe_lst (pa_cons (L2H.pe_callH (E := fun _ => E0) (hk_first_state T) (hr.mono (by decide)) hc (by rfl) T.m_first_state T.F_first_state.kp T.b_first_state (fun _ _ _ _ _ _ _ h => h.elim) (pa_cons (L2H.pe_callH (E := fun _ => E0) (hk_checked T) (hr.mono (by decide)) hc (by rfl) T.m_checked T.F_checked.kp T.b_checked (fun _ _ _ _ _ _ _ h => h.elim) (pa_cons (pv 0) pa_nil)) pa_nil)) pa_nil)))
  (pss_cons (ps_set (i := 4) sc_walk.nd rfl (.inl rfl) (pe_revL (pv 2)))
  (pss_cons (ps_while (passes_of rfl) (pt_not (pt_val (L2H.pe_callH (E := fun _ => E0) (hk_is_end T) (hr.mono (by decide)) hc (by rfl) T.m_is_end T.F_is_end.kp T.b_is_end (fun _ _ _ _ _ _ _ h => h.elim) (pa_cons (pe_ix ix_list (pv 3) (pe_un un_neg pe_int) (fun _ _ => rfl)) (pa_cons (pv 1) pa_nil)))))
   (pss_one (ps_expr (pe_bm PySem.F.plainAttrs_list PySem.F.slot_list_append PySem.F.type_list_append mt_append (pv 3) (pa_cons (L2H.pe_callH (E := fun σ => WE (fun cls d _ H => E cls d H) σ) (hk__followed T) (hr.mono (by decide)) hc (by rfl) T.m__followed T.F__followed.kp T.b__followed (fun σ => L2.passAt (L2.takes_of rfl rfl rfl rfl) σ) (pa_cons (L2H.pe_callH (E := fun _ => E0) (hk_onward T) (hr.mono (by decide)) hc (by rfl) T.m_onward T.F_onward.kp T.b_onward (fun _ _ _ _ _ _ _ h => h.elim) (pa_cons (pe_ix ix_list (pv 3) (pe_un un_neg pe_int) (fun _ _ => rfl)) (pa_cons (pv 1) pa_nil))) (pa_cons (pv 4) pa_nil))) pa_nil)))))
  (pss_cons (ps_if (pt_truth (pv 4) (by intro _; rfl))
    (pss_one (L2H.ps_raiseH hc (L2.takes_of rfl rfl rfl rfl) (L2N.pmk_own PySem.F.excBase_ValueError T.x_BadWay T.g_BadWay T.k_BadWay (raises_own T.b_BadWay T.t_BadWay) (by exact rfl))))
    pss_nil)
  (pss_one (ps_ret (pv 3))))))), ?_⟩
  refine ⟨_, rfl, p, v, rfl, hp, hsz, hg, fun H1 s1 => ?_⟩
  refine ⟨p, v, rfl, hp.mono (TS.of s1), fun t H2 s2 hs => ?_⟩
  refine ⟨sz (by show 1 ≤ 10000; decide), fun lp np => ?_⟩
  have s12 := s1.trans s2
  have s3 := same_new (o := .lst [.ref t]) np
  have s13 := s12.trans s3
  have np0 := s12.free np
  refine ⟨_, rfl, a, _, rfl, SqL.of (s13 _ _ ha), fun ll nl => ?_⟩
  have s4 := same_new (o := .lst ys0.reverse) nl
  have nl0 := s13.free nl
  have nll : lp ≠ ll := fun e => by
    rw [← e, upd_same] at nl
    cases nl
  refine ⟨wInv K H v z a lp ll p Tm R0, ⟨_, [], R0, _, ys0, [.ref t], rfl, s13.trans s4, s4 _ _ upd_same, .cons (hs.mono (TS.of (s3.trans s4))) .nil, upd_same, nll, htr, by cases R0 <;> rfl, SOk.first _ _, (fun x hx => by cases hx), List.nodup_nil, hy.mono (TI.of (s13.trans s4)), rfl⟩, ?_⟩
  clear s4 nl s13 s3 s12 np hs s2 s1
  rintro m σ' H3 ⟨A', R, st, ys, vs, rfl, s1, hl, pv, hll, _, tr, eR, hok, hA, nA, hy3, rfl⟩
  have ne0 : A' ++ [st] ≠ [] := by simp
  obtain ⟨A1, x1, vs1, sv, eA, rfl, pvA, hs⟩ := Paired.last pv (by
    have h1 := Paired.length pv
    have h2 : (A' ++ [st]).length = A'.length + 1 := by rw [List.length_append]; rfl
    omega)
  obtain ⟨rfl, ex⟩ := List.append_inj' eA rfl
  obtain rfl : st = x1 := (List.cons.inj ex).1
  clear eA ex
  have few : (A' ++ [st]).length < 3000000 := by
    refine states_few (p := p) (z := z.cps.toList) ?_ ?_ hsz (by rw [str_len]; exact hz)
    · rw [List.nodup_append]
      refine ⟨nA, by simp, fun x hx y hy e => ?_⟩
      rw [List.mem_singleton.mp hy] at e
      have := (hA x hx).2
      rw [e] at this
      omega
    · intro x hx
      rcases List.mem_append.mp hx with hx | hx
      · exact (hA x hx).1
      · rw [List.mem_singleton.mp hx]
        exact hok
  have lv : (A' ++ [st]).length = (vs1 ++ [sv]).length := Paired.length pv
  obtain ⟨o1, o2, o3⟩ := okz hok
  refine ⟨_, rfl, _, rfl, lp, _, _, sv, rfl, rfl, SqL.of hl, atI_last _ _, _, rfl, st, sv, z, rfl, hs, o3, hz, fun H4 s4 => ⟨_, rfl, ?_⟩⟩
  have hl4 := s4 _ _ hl
  have hll4 := s4 _ _ hll
  have hs4 := hs.mono (TS.of (K := K) s4)
  have pv4 := SAts.mono (TS.of (K := K) s4) pv
  have hy4 := hy3.mono (TI.of s4)
  have s14 := s1.trans s4
  have ct := hT st hok
  have end_is : isEnd z (endS z.cps.toList) = true := by
    show (true && decide (((z.cps.toList.length : Nat) : Int) = ((z.length : Nat) : Int))) = true
    rw [str_len]
    simp
  have end_not : st ≠ endS z.cps.toList → isEnd z st = false := fun h0 => by
    cases e : isEnd z st with
    | false => rfl
    | true =>
      exfalso
      obtain ⟨R1, k1⟩ := st
      cases R1 with
      | nil =>
        have e1 : (true && decide (((k1 : Nat) : Int) = ((z.length : Nat) : Int))) = true := e
        have e2 : ((k1 : Nat) : Int) = ((z.length : Nat) : Int) := by simpa using e1
        exact h0 (by
          show (([], k1) : Sta) = ([], z.cps.toList.length)
          rw [str_len]
          have : k1 = z.length := by omega
          rw [this])
      | cons t R1 => cases e
  rcases tr.inv with ⟨rfl, rfl, rfl⟩ | ⟨rfl, hne, rfl⟩ | ⟨e1, h0, rfl⟩ | ⟨s', R', e1, rfl, tr'⟩ | ⟨sa, sb, e1, hb, rfl⟩ | ⟨sa, sb, c, ys', s', R', e1, rfl, hc, e2, rfl, tr'⟩
  · rw [end_is]
    refine iteF ?_
    refine ⟨_, rfl, false, .inl ⟨_, SqL.of hll4, rfl⟩, iteF ?_⟩
    refine ⟨_, rfl, q _ eR lp _ H4 s14 np0 hl4 pv4 (Nat.le_of_lt few) fun x hx => ?_⟩
    rcases List.mem_append.mp hx with hx | hx
    · exact (hA x hx).1
    · rw [List.mem_singleton.mp hx]
      exact hok
  · rw [end_is]
    refine iteF ?_
    refine ⟨_, rfl, true, .inl ⟨_, SqL.of hll4, by simpa using hne⟩, iteT ?_⟩
    exact qe eR H4 s14
  · rw [end_not h0]
    refine iteT ?_
    refine ⟨fun σ' H' => ∃ m', m' < Tm st ∧ wInv K H v z a lp ll p Tm R0 m' σ' H', fun σ' H' h => h, ?_⟩
    refine ⟨_, rfl, .inl ⟨rfl, _, SqL.of hl4⟩, _, rfl, _, rfl, lp, _, _, sv, rfl, rfl, SqL.of hl4, atI_last _ _, _, rfl, st, sv, z, rfl, hs4, o1, o2, hz, fun gl gv H5 s5 ngl hg pg => ?_⟩
    rw [e1] at pg
    obtain rfl : gv = [] := List.length_eq_zero_iff.mp (by have := Paired.length pg; simpa using this.symm)
    refine ⟨_, rfl, gl, ll, _, _, rfl, hg, ?_, s5 _ _ hll4, .inl ⟨rfl, qe eR H5 (s14.trans s5)⟩⟩
    intro e
    rw [e, hll4] at ngl
    cases ngl
  · have h0 : st ≠ endS z.cps.toList := fun e => by
      rw [e, step_end] at e1
      cases e1
    rw [end_not h0]
    refine iteT ?_
    refine ⟨fun σ' H' => ∃ m', m' < Tm st ∧ wInv K H v z a lp ll p Tm R0 m' σ' H', fun σ' H' h => h, ?_⟩
    refine ⟨_, rfl, .inl ⟨rfl, _, SqL.of hl4⟩, _, rfl, _, rfl, lp, _, _, sv, rfl, rfl, SqL.of hl4, atI_last _ _, _, rfl, st, sv, z, rfl, hs4, o1, o2, hz, fun gl gv H5 s5 ngl hg pg => ?_⟩
    rw [e1] at pg
    obtain ⟨g0, rfl⟩ : ∃ g, gv = [g] := List.length_eq_one_iff.mp (by have := Paired.length pg; simpa using this.symm)
    have hl5 := s5 _ _ hl4
    have hll5 := s5 _ _ hll4
    have hm : s' ∈ step z.cps.toList st := by rw [e1]; simp
    have ok' := hok.step hn s' hm
    have nd := nu_dec hn hok s' hm
    rw [e1] at ct
    simp only [List.map_cons, List.map_nil, List.sum_cons, List.sum_nil] at ct
    have g0' : SAt K H5 s' g0 := by
      cases pg with
      | cons h _ => exact h
    refine ⟨_, rfl, gl, ll, _, _, rfl, hg, ?_, hll5, .inr (.inl ⟨g0, rfl, ?_⟩)⟩
    · intro e
      rw [e, hll4] at ngl
      cases ngl
    refine ⟨lp, _, g0, rfl, rfl, hl5, by rw [sizeLine_eq]; omega, ?_⟩
    have e9 : TS K H5 (upd H5 lp (.lst (vs1 ++ [sv] ++ [g0]))) := TS.lst hl5
    refine ⟨Tm s', by omega, A' ++ [st], R', s', ys, vs1 ++ [sv] ++ [g0], rfl, Same.mut (s14.trans s5) np0, upd_same, SAts.snoc (SAts.mono e9 (SAts.mono (TS.of s5) pv4)) (g0'.mono e9), by rw [upd_ne nll.symm]; exact hll5, nll, tr', by rw [eR, map_app], ok', fun x hx => ?_, ?_, (hy4.mono (TI.of s5)).mono (TI.lst hl5), rfl⟩
    · rcases List.mem_append.mp hx with hx | hx
      · have := hA x hx
        exact ⟨this.1, by omega⟩
      · rw [List.mem_singleton.mp hx]
        exact ⟨hok, nd⟩
    · rw [List.nodup_append]
      refine ⟨nA, by simp, fun x hx y hy e => ?_⟩
      rw [List.mem_singleton.mp hy] at e
      have := (hA x hx).2
      rw [e] at this
      omega
  · have h0 : st ≠ endS z.cps.toList := fun e => by
      rw [e, step_end] at e1
      cases e1
    rw [end_not h0]
    refine iteT ?_
    refine ⟨fun σ' H' => ∃ m', m' < Tm st ∧ wInv K H v z a lp ll p Tm R0 m' σ' H', fun σ' H' h => h, ?_⟩
    refine ⟨_, rfl, .inl ⟨rfl, _, SqL.of hl4⟩, _, rfl, _, rfl, lp, _, _, sv, rfl, rfl, SqL.of hl4, atI_last _ _, _, rfl, st, sv, z, rfl, hs4, o1, o2, hz, fun gl gv H5 s5 ngl hg pg => ?_⟩
    have hgl := Paired.length pg
    obtain ⟨g0, g1, rfl⟩ : ∃ g0 g1, gv = [g0, g1] := by
      rcases gv with _ | ⟨g0, _ | ⟨g1, _ | ⟨g2, gs⟩⟩⟩ <;> first | exact ⟨_, _, rfl⟩ | (rw [e1] at hgl; simp at hgl)
    have hll5 := s5 _ _ hll4
    refine ⟨_, rfl, gl, ll, _, _, rfl, hg, ?_, hll5, .inr (.inr ⟨g0, g1, rfl, ?_⟩)⟩
    · intro e
      rw [e, hll4] at ngl
      cases ngl
    rcases hb with rfl | ⟨y, ys', rfl, hc⟩
    · exact .inl ⟨rfl, qe eR H5 (s14.trans s5)⟩
    · obtain ⟨t, ht⟩ := hy4 y List.mem_cons_self
      refine .inr ⟨ys'.reverse, y, t, by rw [List.reverse_cons], (ht.mono (TI.of s5)).mono (TI.lst hll5), fun _ H6 s6 => qe eR H6 ((Same.mut (s14.trans s5) nl0).trans s6), fun c x ec hc1 _ => ?_⟩
      rw [ec] at hc
      match c, hc1 with
      | 0, _ => cases hc
      | 1, _ => cases hc
  · have h0 : st ≠ endS z.cps.toList := fun e => by
      rw [e, step_end] at e1
      cases e1
    rw [end_not h0]
    refine iteT ?_
    refine ⟨fun σ' H' => ∃ m', m' < Tm st ∧ wInv K H v z a lp ll p Tm R0 m' σ' H', fun σ' H' h => h, ?_⟩
    refine ⟨_, rfl, .inl ⟨rfl, _, SqL.of hl4⟩, _, rfl, _, rfl, lp, _, _, sv, rfl, rfl, SqL.of hl4, atI_last _ _, _, rfl, st, sv, z, rfl, hs4, o1, o2, hz, fun gl gv H5 s5 ngl hg pg => ?_⟩
    have hm : s' ∈ step z.cps.toList st := List.mem_of_getElem? e2
    have ok' := hok.step hn s' hm
    have nd := nu_dec hn hok s' hm
    have lt : Tm s' < Tm st := by
      have := mem_le_sum (l := (step z.cps.toList st).map fun s' => 1 + Tm s') (List.mem_map.mpr ⟨s', hm, rfl⟩)
      omega
    have hgl := Paired.length pg
    have hc2 := (List.getElem?_eq_some_iff.mp e2).1
    obtain ⟨y, e0, u0⟩ := Paired.at pg (List.getElem?_eq_getElem (show c < gv.length by omega))
    rw [e2] at e0
    cases Option.some.inj e0
    have ex := List.getElem?_eq_getElem (show c < gv.length by omega)
    generalize gv[c]'(show c < gv.length by omega) = g at u0 ex
    have u0 : SAt K H5 s' g := u0
    obtain ⟨g0, g1, rfl⟩ : ∃ g0 g1, gv = [g0, g1] := by
      rcases gv with _ | ⟨g0, _ | ⟨g1, _ | ⟨g2, gs⟩⟩⟩ <;> first | exact ⟨_, _, rfl⟩ | (rw [e1] at hgl; simp at hgl)
    have hl5 := s5 _ _ hl4
    have hll5 := s5 _ _ hll4
    rw [List.reverse_cons] at hll5
    refine ⟨_, rfl, gl, ll, _, _, rfl, hg, ?_, hll5, .inr (.inr ⟨g0, g1, rfl, .inr ⟨ys'.reverse, .int (c : Int), _, rfl, .int _, fun hn => ?_, fun c' x ec _ hx H6 s6 => ?_⟩⟩)⟩
    · intro e
      rw [e, hll4] at ngl
      cases ngl
    · match c, hc with
      | 0, _ => cases hn
      | 1, _ => cases hn
    obtain rfl : c = c' := by
      have := V.int.inj ec
      omega
    rw [ex] at hx
    cases Option.some.inj hx
    have t6 : TS K H5 H6 := (TS.lst (K := K) hll5).trans (TS.of s6)
    have i6 : TI H5 H6 := (TI.lst hll5).trans (TI.of s6)
    have hl6 := s6 _ _ (show upd H5 ll (.lst ys'.reverse) lp = some (.lst (vs1 ++ [sv])) by rw [upd_ne nll]; exact hl5)
    have hll6 := s6 _ _ (upd_same (H := H5) (a := ll) (o := .lst ys'.reverse))
    have s16 : Same H H6 := (Same.mut (s14.trans s5) nl0).trans s6
    refine ⟨lp, _, g, rfl, rfl, hl6, by rw [sizeLine_eq]; omega, ?_⟩
    have e9 : TS K H6 (upd H6 lp (.lst (vs1 ++ [sv] ++ [g]))) := TS.lst hl6
    refine ⟨Tm s', lt, A' ++ [st], R', s', ys', vs1 ++ [sv] ++ [g], rfl, Same.mut s16 np0, upd_same, SAts.snoc (SAts.mono e9 (SAts.mono t6 (SAts.mono (TS.of s5) pv4))) ((u0.mono t6).mono e9), by rw [upd_ne nll.symm]; exact hll6, nll, tr', by rw [eR, map_app], ok', fun x hx => ?_, ?_, ?_, rfl⟩
    · rcases List.mem_append.mp hx with hx | hx
      · have := hA x hx
        exact ⟨this.1, by omega⟩
      · rw [List.mem_singleton.mp hx]
        exact ⟨hok, nd⟩
    · rw [List.nodup_append]
      refine ⟨nA, by simp, fun x hx y hy e => ?_⟩
      rw [List.mem_singleton.mp hy] at e
      have := (hA x hx).2
      rw [e] at this
      omega
    · have hy' : ITs H4 ys' := fun y hy => hy4 y (List.mem_cons_of_mem _ hy)
      exact ((hy'.mono (TI.of s5)).mono i6).mono (TI.lst hl6)


end
end G1

set_option maxRecDepth 100000
set_option maxHeartbeats 4000000
namespace G1
open PySem PySem.Spec PyProof.Rows L2 Gm
section
variable {P : Program} {w : World} {K : PySem.W.Frag} {mg : Str → Option Value} {base : Heap}
theorem run_few {p : Pat} {z : List Nat} (hsz : siz p ≤ 1000) (hz : z.length ≤ 1000) {A : List Sta} {st : Sta} (hA : ∀ x ∈ A, SOk p z x ∧ nu p z st < nu p z x) (nA : A.Nodup) : A.length < 3000000 := states_few nA (fun x hx => (hA x hx).1) hsz hz
theorem run_snoc {p : Pat} {z : List Nat} {A : List Sta} {st s' : Sta} (hok : SOk p z st) (hA : ∀ x ∈ A, SOk p z x ∧ nu p z st < nu p z x) (nA : A.Nodup) (nd : nu p z s' < nu p z st) : (∀ x ∈ A ++ [st], SOk p z x ∧ nu p z s' < nu p z x) ∧ (A ++ [st]).Nodup := by
  refine ⟨fun x hx => ?_, ?_⟩
  · rcases List.mem_append.mp hx with hx | hx
    · have := hA x hx
      exact ⟨this.1, by omega⟩
    · rw [List.mem_singleton.mp hx]
      exact ⟨hok, nd⟩
  · rw [List.nodup_append]
    refine ⟨nA, by simp, fun x hx y hy e => ?_⟩
    rw [List.mem_singleton.mp hy] at e
    have := (hA x hx).2
    rw [e] at this
    omega
def vInv (K : PySem.W.Frag) (H : Hp) (v : V) (z : Str) (a lf : Addr) (ys : List V) (p : Pat) (Tm : Sta → Nat) (R0 : Option (List Sta)) (m : Nat) (σ' : L2.St) (H' : Hp) : Prop :=
  ∃ (A : List Sta) (R : Option (List Sta)) (st : Sta) (sv : V) (u : Nat) (gl : Addr) (gv vs : List V) (y7 : Option V), σ' = [some v, some (.str z), some (.ref a), some sv, some (.ref lf), some (.int (u : Int)), some (.ref gl), y7] ∧ Same H H' ∧ SAt K H' st sv ∧ H' gl = some (.lst gv) ∧
    SAts K H' (step z.cps.toList st) gv ∧ SOk p z.cps.toList st ∧ u ≤ ys.length ∧ Run z.cps.toList st (ys.drop u) R ∧ R0 = R.map (A ++ ·) ∧ H' lf = some (.lst vs) ∧ SAts K H' (A ++ [st]) vs ∧ gl ≠ lf ∧
    (∀ x ∈ A, SOk p z.cps.toList x ∧ nu p z.cps.toList st < nu p z.cps.toList x) ∧ A.Nodup ∧ m = Tm st
def sp_walked (K : PySem.W.Frag) : Sp := fun vs H Q _ => ∃ (p : Pat) (v : V) (z : Str) (a : Addr) (ys : List V) (R : Option (List Sta)), vs = [v, .str z, .ref a] ∧ PAt K H p v ∧ siz p ≤ 1000 ∧ dep p ≤ 50 ∧ goodP p ∧ z.length ≤ 1000 ∧ H a = some (.lst ys) ∧ ITs H ys ∧
  Run z.cps.toList ([.pat p], 0) ys R ∧ (∀ L, R = some L → ∀ (r : Addr) (ts : List V) (H' : Hp), Same H H' → H' r = some (.lst ts) → SAts K H' L ts → Q (.ref r) H') ∧ (R = none → ∀ H', Same H H' → Q .non H')
theorem ok__law_walked (T : Txt w K mg) : FnOk P w K mg base CX0 2 T.f__law_walked T.fd__law_walked ["_law_pattern", "_law_text", "_law_way"] (sp_walked K) := by
  refine T.F__law_walked.ok sc__law_walked (fun vs H Q E h => ?_) (fun cdv A outer s H vs Q E hr h => ?_)
  · obtain ⟨p, v, z, a, ws, L, rfl, _⟩ := h
    rfl
  obtain ⟨p, v, z, a, ys, R0, rfl, hp, hsz, hdp, hg, hz, ha, hy, htr, q, qn⟩ := h
  have hn := hg.nr
  obtain ⟨Tm, hT⟩ := cost_ex hn z.cps.toList
  have hz' : z.cps.toList.length ≤ 1000 := by rw [str_len]; exact hz
  have okz : ∀ {st : Sta}, SOk p z.cps.toList st → st.1.length ≤ 1000 ∧ st.2 ≤ z.length ∧ gd 50 st.1 := fun {st} h => by
    have h1 := allr_ok hn _ h.1
    have h2 := h1.len
    have h3 := h.2
    rw [str_len] at h3
    exact ⟨by omega, h3, fun t ht => Nat.le_trans (h1.gd t ht) hdp⟩
  refine ⟨_, (pss_cons (ps_set (i := 3) sc__law_walked.nd rfl (.inl rfl) (pe_tup (pa_cons (pe_tup (pa_cons (pv 0) pa_nil)) (pa_cons pe_int pa_nil))))
  (pss_cons (ps_set (i := 4) sc__law_walked.nd rfl (.inl rfl) (pe_lst (pa_cons (pv 3) pa_nil)))
  (pss_cons (ps_set (i := 5) sc__law_walked.nd rfl (.inl rfl) pe_int)
  (pss_cons (ps_set (i := 6) sc__law_walked.nd rfl (.inl rfl) (pe_call (ok__law_onward T) (hr.mono (by decide)) (by rfl) T.m__law_onward T.F__law_onward.kp T.b__law_onward .nil pass0 (pa_cons (pv 3) (pa_cons (pv 1) pa_nil))))
  (pss_cons (ps_while PassesOwn.never (pt_cmpR op_gt (pe_callB call_len_seq (by rfl) T.n_len PySem.boot_len (pa_cons (pv 6) pa_nil)) pe_int (nomark _))
   (pss_cons (ps_set (i := 7) sc__law_walked.nd rfl (.inl rfl) pe_int)
  (pss_cons (ps_if (pt_cmpR op_eq (pe_callB call_len_seq (by rfl) T.n_len PySem.boot_len (pa_cons (pv 6) pa_nil)) pe_int (nomark _))
    (pss_cons (ps_if (PW.pt (pw_or (pt_cmpR op_eq (pv 5) (pe_callB call_len_seq (by rfl) T.n_len PySem.boot_len (pa_cons (pv 2) pa_nil)) (nomark _)) (pw_or (pt_val (pe_callB call_isi (by rfl) T.n_isinstance (by decide +kernel) (pa_cons (pe_ix ix_list (pv 2) (pv 5) (fun _ _ => rfl)) (pa_cons (pe_bltn (v := .ty "bool") (by rfl) T.n_bool (by decide +kernel) rfl) pa_nil)))) (pw_or1 (pt_not (pt_val (pe_callB call_isi (by rfl) T.n_isinstance (by decide +kernel) (pa_cons (pe_ix ix_list (pv 2) (pv 5) (fun _ _ => rfl)) (pa_cons (pe_bltn (v := .ty "int") (by rfl) T.n_int (by decide +kernel) rfl) pa_nil)))))))))
    (pss_one (ps_ret pe_non))
    pss_nil)
  (pss_cons (ps_set (i := 7) sc__law_walked.nd rfl (.inl rfl) (pe_ix ix_list (pv 2) (pv 5) (fun _ _ => rfl)))
  (pss_cons (ps_if (PW.pt (pw_or (pt_cmpR op_lt (pv 7) pe_int (nomark _)) (pw_or1 (pt_cmpR op_gt (pv 7) pe_int (nomark _)))))
    (pss_one (ps_ret pe_non))
    pss_nil)
  (pss_one (ps_set (i := 5) sc__law_walked.nd rfl (.inl rfl) (pe_op op_add (pv 5) pe_int))))))
    pss_nil)
  (pss_cons (ps_set (i := 3) sc__law_walked.nd rfl (.inl rfl) (pe_ix ix_list (pv 6) (pv 7) (fun _ _ => rfl)))
  (pss_cons (ps_expr (pe_bm PySem.F.plainAttrs_list PySem.F.slot_list_append PySem.F.type_list_append mt_append (pv 4) (pa_cons (pv 3) pa_nil)))
  (pss_one (ps_set (i := 6) sc__law_walked.nd rfl (.inl rfl) (pe_call (ok__law_onward T) (hr.mono (by decide)) (by rfl) T.m__law_onward T.F__law_onward.kp T.b__law_onward .nil pass0 (pa_cons (pv 3) (pa_cons (pv 1) pa_nil))))))))))
  (pss_cons (ps_if (PW.pt (pw_or (pt_cmpR (op_neD hr.units) (pv 3) (pe_tup (pa_cons (pe_tup pa_nil) (pa_cons (pe_callB call_len (by rfl) T.n_len PySem.boot_len (pa_cons (pv 1) pa_nil)) pa_nil))) (nomark _)) (pw_or1 (pt_cmpR op_lt (pv 5) (pe_callB call_len_seq (by rfl) T.n_len PySem.boot_len (pa_cons (pv 2) pa_nil)) (nomark _)))))
    (pss_one (ps_ret pe_non))
    pss_nil)
  (pss_one (ps_ret (pv 4))))))))), ?_⟩
  refine ⟨_, rfl, sz (by show 1 ≤ 10000; decide), fun t1 n1 => ⟨sz (by show 2 ≤ 10000; decide), fun t2 n2 => ?_⟩⟩
  have s1 := (same_new (o := .tup [v]) n1).trans (same_new (o := .tup [.ref t1, .int 0]) n2)
  have hs : SAt K (upd (upd H t1 (.tup [v])) t2 (.tup [.ref t1, .int 0])) ([.pat p], 0) (.ref t2) := ⟨t2, .ref t1, rfl, SqT.of upd_same, t1, [v], rfl, TS.of (K := K) (same_new n2) _ _ (SqT.of upd_same), .cons (hp.mono (TS.of s1)) .nil⟩
  refine ⟨_, rfl, sz (by show 1 ≤ 10000; decide), fun lf nlf => ?_⟩
  have s2 := same_new (o := .lst [.ref t2]) nlf
  have nlf0 := s1.free nlf
  have hf2 := upd_same (H := upd (upd H t1 (.tup [v])) t2 (.tup [.ref t1, .int 0])) (a := lf) (o := .lst [.ref t2])
  have s12 := s1.trans s2
  have hs2 := hs.mono (TS.of (K := K) s2)
  generalize upd (upd (upd H t1 (.tup [v])) t2 (.tup [.ref t1, .int 0])) lf (.lst [.ref t2]) = H2 at s12 hs2 hf2 s2
  obtain ⟨o1, o2, _⟩ := okz (SOk.first p z.cps.toList)
  refine ⟨_, rfl, _, rfl, [.pat p], .ref t2, 0, z, rfl, hs2, o1, o2, hz, fun gl gv H3 s3 ngl hgl pg => ?_⟩
  refine ⟨vInv K H v z a lf ys p Tm R0, ⟨_, [], R0, _, _, 0, gl, gv, _, none, rfl, s12.trans s3, hs2.mono (TS.of s3), hgl, pg, SOk.first _ _, Nat.zero_le _, htr, by cases R0 <;> rfl, s3 _ _ hf2, .cons (hs2.mono (TS.of s3)) .nil, (fun e => by rw [e, hf2] at ngl; cases ngl), (fun x hx => by cases hx), List.nodup_nil, rfl⟩, ?_⟩
  clear pg hgl ngl s3 hs2 hf2 s12 hs s1 s2 nlf n2 n1
  rintro m σ' H4 ⟨A', R, st, sv, u, gl, gv, vs, y7, rfl, s1, hs, hgl, pg, hok, hu, tr, eL, hf, pf, ngf, hA, nA, rfl⟩
  have lgv : (step z.cps.toList st).length = gv.length := Paired.length pg
  have lA : A'.length < 3000000 := run_few hsz hz' hA nA
  have lvs : A'.length + 1 = vs.length := by
    have := Paired.length pf
    rw [List.length_append, List.length_singleton] at this
    exact this
  obtain ⟨o1, o2, o3⟩ := okz hok
  refine ⟨_, rfl, gl, _, rfl, .inl (SqL.of hgl), _, _, rfl, rfl, _, rfl, ?_⟩
  by_cases h0 : step z.cps.toList st = []
  · have g0 : gv = [] := List.length_eq_zero_iff.mp (by rw [← lgv, h0]; rfl)
    subst g0
    refine iteF ?_
    refine ⟨_, rfl, Nat.zero_le _, fun t1 n1 => ?_⟩
    refine ⟨_, rfl, _, _, rfl, ⟨sz (by omega), rfl⟩, sz (by show 2 ≤ 10000; decide), fun t2 n2 => ?_⟩
    have s2 := (same_new (o := .tup []) n1).trans (same_new (o := .tup [.ref t1, .int ((z.length : Nat) : Int)]) n2)
    have de : Dp K (upd (upd H4 t1 (.tup [])) t2 (.tup [.ref t1, .int ((z.length : Nat) : Int)])) (.ref t2) (.tuple [.tuple [], .int ((z.length : Nat) : Int)]) :=
      .tup (SqT.of upd_same) (.cons (.tup (TS.of (K := K) (same_new n2) _ _ (SqT.of upd_same)) .nil) (.cons (.int _) .nil))
    have hx2 := hs.mono (TS.of (K := K) s2)
    refine ⟨spd st, _, hx2.dp, de, shaped_of hx2.lay (Nat.le_trans (spd_depth o3) (by decide)), shaped_of (lay_tup (lay_cons (lay_tup lay_nil) (lay_cons (lay_int _) lay_nil))) (by simp [PyData.depth, PyData.depthAll]), ?_⟩
    rw [eqv_end]
    have s14 := s1.trans s2
    have ha4 := s14 _ _ ha
    have end_is : st = endS z.cps.toList → (st.1.isEmpty && decide (((st.2 : Nat) : Int) = ((z.length : Nat) : Int))) = true := fun e => by
      rw [e]
      show (true && decide (((z.cps.toList.length : Nat) : Int) = ((z.length : Nat) : Int))) = true
      rw [str_len]
      simp
    have end_not : st ≠ endS z.cps.toList → (st.1.isEmpty && decide (((st.2 : Nat) : Int) = ((z.length : Nat) : Int))) = false := fun h0 => by
      rw [Bool.eq_false_iff]
      intro e
      rw [Bool.and_eq_true] at e
      obtain ⟨e1, e2⟩ := e
      refine h0 ?_
      have e2 := of_decide_eq_true e2
      obtain ⟨R1, k1⟩ := st
      cases R1 with
      | nil =>
        show (([], k1) : Sta) = ([], z.cps.toList.length)
        rw [str_len]
        have : k1 = z.length := by
          have : ((k1 : Nat) : Int) = ((z.length : Nat) : Int) := e2
          omega
        rw [this]
      | cons t R1 => cases e1
    rcases tr.inv with ⟨e0, eys, rfl⟩ | ⟨e0, hne, rfl⟩ | ⟨_, hne, rfl⟩ | ⟨a', R', e1, _⟩ | ⟨sa, sb, e1, _⟩ | ⟨sa, sb, c, ys', s', R', e1, _⟩
    · rw [end_is e0]
      refine ⟨_, rfl, iteF ?_⟩
      have hul : ¬ u < ys.length := fun h => by
        have := congrArg List.length eys
        rw [List.length_drop, List.length_nil] at this
        omega
      refine ⟨_, rfl, _, rfl, a, _, rfl, .inl (SqL.of ha4), _, _, rfl, rfl, _, rfl, ite2 (fun c => absurd (of_decide_eq_true c) (by omega)) (fun _ => ?_)⟩
      subst e0
      exact ⟨_, rfl, q _ eL lf vs _ s14 (s2 _ _ hf) (SAts.mono (TS.of s2) pf)⟩
    · rw [end_is e0]
      refine ⟨_, rfl, iteF ?_⟩
      have hul : u < ys.length := by
        rcases Nat.lt_or_ge u ys.length with h | h
        · exact h
        · exact absurd (List.drop_eq_nil_of_le h) hne
      refine ⟨_, rfl, _, rfl, a, _, rfl, .inl (SqL.of ha4), _, _, rfl, rfl, _, rfl, ite2 (fun _ => ?_) (fun c => absurd (decide_eq_true (by omega)) c)⟩
      exact qn eL _ s14
    · rw [end_not hne]
      refine ⟨_, rfl, iteT (iteT ?_)⟩
      exact qn eL _ s14
    · rw [h0] at e1
      cases e1
    · rw [h0] at e1
      cases e1
    · rw [h0] at e1
      cases e1
  have hpos : 0 < gv.length := by
    rw [← lgv]
    exact List.length_pos_iff.mpr h0
  have ct := hT st hok
  refine ite2 (fun _ => ?_) (fun c => absurd (decide_eq_true (by omega)) c)
  refine ⟨fun σ' H' => ∃ m', m' < Tm st ∧ vInv K H v z a lf ys p Tm R0 m' σ' H', fun σ' H' h => h, ?_⟩
  have ha6 := s1 _ _ ha
  rcases tr.inv with ⟨e, _⟩ | ⟨e, _⟩ | ⟨e, _⟩ | ⟨s', R', e1, rfl, tr'⟩ | ⟨sx1, sx2, e1, hbad, rfl⟩ | ⟨sx1, sx2, c, w', s', R', e1, ew, hc1, e2, rfl, tr'⟩
  · exact absurd (by rw [e, step_end]) h0
  · exact absurd (by rw [e, step_end]) h0
  · exact absurd e h0
  · rw [e1] at pg ct
    simp only [List.map_cons, List.map_nil, List.sum_cons, List.sum_nil] at ct
    have hm : s' ∈ step z.cps.toList st := by rw [e1]; simp
    obtain ⟨g0, rfl⟩ : ∃ g, gv = [g] := List.length_eq_one_iff.mp (by rw [← lgv, e1]; rfl)
    have hs' : SAt K H4 s' g0 := by
      cases pg with
      | cons h _ => exact h
    have hok' := hok.step hn s' hm
    obtain ⟨p1, p2, _⟩ := okz hok'
    obtain ⟨hA2, nA2⟩ := run_snoc hok hA nA (nu_dec hn hok s' hm)
    refine ⟨_, rfl, gl, _, rfl, .inl (SqL.of hgl), rfl, _, rfl, iteF ?_⟩
    refine ⟨_, rfl, _, rfl, gl, _, _, _, rfl, rfl, SqL.of hgl, at0 rfl, ?_⟩
    refine ⟨_, rfl, .inl ⟨rfl, _, SqL.of hf⟩, _, rfl, lf, _, _, rfl, rfl, hf, by rw [sizeLine_eq]; omega, ?_⟩
    have e9 : TS K H4 (upd H4 lf (.lst (vs ++ [g0]))) := TS.lst hf
    refine ⟨_, rfl, _, rfl, s'.1, g0, s'.2, z, rfl, hs'.mono e9, p1, p2, hz, fun gl2 gv2 H7 s7 ngl2 hg2 pg2 => ?_⟩
    have t79 := e9.trans (TS.of (K := K) s7)
    exact ⟨_, by omega, A' ++ [st], R', s', g0, u, gl2, gv2, vs ++ [g0], _, rfl, (Same.mut s1 nlf0).trans s7, hs'.mono t79, hg2, pg2, hok', hu, tr', by rw [eL, map_app], s7 _ _ upd_same, SAts.snoc (SAts.mono t79 pf) (hs'.mono t79), (fun e => by rw [e, upd_same] at ngl2; cases ngl2), hA2, nA2, rfl⟩
  · have l2 : gv.length = 2 := by rw [← lgv, e1]; rfl
    refine ⟨_, rfl, gl, _, rfl, .inl (SqL.of hgl), rfl, _, rfl, ite2 (fun _ => ?_) (fun c => absurd (by rw [l2]; rfl) c)⟩
    rcases hbad with hnil | ⟨y, ys', ecs, hcy⟩
    · have hul : u = ys.length := by
        have := congrArg List.length hnil
        rw [List.length_drop, List.length_nil] at this
        omega
      refine ⟨_, rfl, _, rfl, a, _, rfl, .inl (SqL.of ha6), rfl, _, rfl, ite2 (fun _ => iteT ?_) (fun c => absurd (decide_eq_true (by rw [hul])) c)⟩
      exact qn eL _ s1
    · have hul : u < ys.length := by
        have := congrArg List.length ecs
        rw [List.length_drop, List.length_cons] at this
        omega
      have ec : ys[u]? = some y := by
        have := congrArg (fun l => l[0]?) ecs
        simpa [List.getElem?_drop] using this
      obtain ⟨ty, hty⟩ := hy y (List.mem_of_getElem? ec)
      have hty6 := hty.mono (TI.of s1)
      refine ⟨_, rfl, _, rfl, a, _, rfl, .inl (SqL.of ha6), rfl, _, rfl, ite2 (fun c1 => ?_) (fun _ => ?_)⟩
      · have := V.int.inj (of_decide_eq_true c1)
        omega
      have tx6 := hty6.tx (K := K)
      cases hty with
      | int i =>
        refine ⟨_, rfl, _, rfl, a, _, _, _, rfl, rfl, SqL.of ha6, atI_nat ec, _, _, _, _, false, rfl, .ty _, tx6, kit_ty (by decide +kernel), _, rfl, iteF ?_⟩
        refine ⟨_, rfl, _, rfl, a, _, _, _, rfl, rfl, SqL.of ha6, atI_nat ec, _, _, _, _, true, rfl, .ty _, tx6, kit_ty (by decide +kernel), _, rfl, iteF ?_⟩
        refine ⟨_, rfl, _, rfl, a, _, _, _, rfl, rfl, SqL.of ha6, atI_nat ec, ?_⟩
        have hcy : (decide (i = 0) || decide (i = 1)) = false := hcy
        rw [Bool.or_eq_false_iff] at hcy
        have i0 := of_decide_eq_false hcy.1
        have i1 := of_decide_eq_false hcy.2
        refine ⟨_, rfl, _, _, rfl, rfl, _, rfl, ite2 (fun _ => iteT ?_) (fun c2 => ?_)⟩
        · exact qn eL _ s1
        have c2 : ¬ i < 0 := of_decide_eq_false (Bool.eq_false_iff.mpr c2)
        refine ⟨_, rfl, _, _, rfl, rfl, _, rfl, ite2 (fun _ => ?_) (fun c => absurd (decide_eq_true (by omega)) c)⟩
        exact qn eL _ s1
      | bl b =>
        refine ⟨_, rfl, _, rfl, a, _, _, _, rfl, rfl, SqL.of ha6, atI_nat ec, _, _, _, _, true, rfl, .ty _, tx6, kit_ty (by decide +kernel), _, rfl, iteT (iteT ?_)⟩
        exact qn eL _ s1
      | _ =>
        refine ⟨_, rfl, _, rfl, a, _, _, _, rfl, rfl, SqL.of ha6, atI_nat ec, _, _, _, _, false, rfl, .ty _, tx6, kit_ty (by decide +kernel), _, rfl, iteF ?_⟩
        refine ⟨_, rfl, _, rfl, a, _, _, _, rfl, rfl, SqL.of ha6, atI_nat ec, _, _, _, _, false, rfl, .ty _, tx6, kit_ty (by decide +kernel), _, rfl, iteT ?_⟩
        exact qn eL _ s1
  · have hm : s' ∈ step z.cps.toList st := List.mem_of_getElem? e2
    have hok' := hok.step hn s' hm
    obtain ⟨p1, p2, _⟩ := okz hok'
    obtain ⟨hA2, nA2⟩ := run_snoc hok hA nA (nu_dec hn hok s' hm)
    have lt : Tm s' < Tm st := by
      have := mem_le_sum (l := (step z.cps.toList st).map fun s' => 1 + Tm s') (List.mem_map.mpr ⟨s', hm, rfl⟩)
      omega
    have hc2 := (List.getElem?_eq_some_iff.mp e2).1
    have lg6 := Paired.length pg
    obtain ⟨y, e0, u0⟩ := Paired.at pg (List.getElem?_eq_getElem (show c < gv.length by omega))
    rw [e2] at e0
    cases Option.some.inj e0
    have ex := List.getElem?_eq_getElem (show c < gv.length by omega)
    generalize gv[c]'(show c < gv.length by omega) = g at u0 ex
    have u0 : SAt K H4 s' g := u0
    obtain ⟨g0, g1, rfl⟩ : ∃ g0 g1, gv = [g0, g1] := by
      rcases gv with _ | ⟨g0, _ | ⟨g1, _ | ⟨g2, gs⟩⟩⟩ <;> first | exact ⟨_, _, rfl⟩ | (rw [e1] at lgv; simp at lgv)
    have hul : u < ys.length := by
      have := congrArg List.length ew
      rw [List.length_drop, List.length_cons] at this
      omega
    have ec : ys[u]? = some (V.int (c : Int)) := by
      have := congrArg (fun l => l[0]?) ew
      simpa [List.getElem?_drop] using this
    have ed : ys.drop (u + 1) = w' := by
      have := congrArg List.tail ew
      simpa [List.tail_drop] using this
    refine ⟨_, rfl, gl, _, rfl, .inl (SqL.of hgl), rfl, _, rfl, iteT ?_⟩
    refine ⟨_, rfl, _, rfl, a, _, rfl, .inl (SqL.of ha6), rfl, _, rfl, ite2 (fun c1 => ?_) (fun _ => ?_)⟩
    · have := V.int.inj (of_decide_eq_true c1)
      omega
    refine ⟨_, rfl, _, rfl, a, _, _, _, rfl, rfl, SqL.of ha6, atI_nat ec, _, _, _, _, false, rfl, .ty _, .base (.int _), kit_ty (by decide +kernel), _, rfl, iteF ?_⟩
    refine ⟨_, rfl, _, rfl, a, _, _, _, rfl, rfl, SqL.of ha6, atI_nat ec, _, _, _, _, true, rfl, .ty _, .base (.int _), kit_ty (by decide +kernel), _, rfl, iteF ?_⟩
    refine ⟨_, rfl, _, rfl, a, _, _, _, rfl, rfl, SqL.of ha6, atI_nat ec, ?_⟩
    refine ⟨_, rfl, _, _, rfl, rfl, _, rfl, ite2 (fun c2 => absurd (of_decide_eq_true c2) (by omega)) (fun _ => ?_)⟩
    refine ⟨_, rfl, _, _, rfl, rfl, _, rfl, ite2 (fun c2 => absurd (of_decide_eq_true c2) (by omega)) (fun _ => ?_)⟩
    refine ⟨_, rfl, _, _, rfl, rfl, ?_⟩
    refine ⟨_, rfl, _, rfl, gl, _, _, g, rfl, rfl, SqL.of hgl, atI_nat ex, ?_⟩
    refine ⟨_, rfl, .inl ⟨rfl, _, SqL.of hf⟩, _, rfl, lf, _, _, rfl, rfl, hf, by rw [sizeLine_eq]; omega, ?_⟩
    have e9 : TS K H4 (upd H4 lf (.lst (vs ++ [g]))) := TS.lst hf
    refine ⟨_, rfl, _, rfl, s'.1, g, s'.2, z, rfl, u0.mono e9, p1, p2, hz, fun gl2 gv2 H8 s8 ngl2 hg2 pg2 => ?_⟩
    have t89 := e9.trans (TS.of (K := K) s8)
    exact ⟨_, lt, A' ++ [st], R', s', g, u + 1, gl2, gv2, vs ++ [g], _, rfl, (Same.mut s1 nlf0).trans s8, u0.mono t89, hg2, pg2, hok', hul, by rw [ed]; exact tr', by rw [eL, map_app], s8 _ _ upd_same, SAts.snoc (SAts.mono t89 pf) (u0.mono t89), (fun e => by rw [e, upd_same] at ngl2; cases ngl2), hA2, nA2, rfl⟩

end
end G1

set_option maxRecDepth 100000
set_option maxHeartbeats 4000000
namespace G1
open PySem PySem.Spec PyProof.Rows L2 Gm
section
variable {P : Program} {w : World} {K : PySem.W.Frag} {mg : Str → Option Value} {base : Heap}
/-- what a way may hold here -/
inductive It (H : Hp) : V → Prop where
  | non : It H .non
  | bl (b : Bool) : It H (.bl b)
  | int (i : Int) : It H (.int i)
  | one : It H (.str "1")
  | lst {a : Addr} (h : H a = some (.lst [.int 0])) : It H (.ref a)
  | tup {a : Addr} (h : H a = some (.tup [])) : It H (.ref a)
theorem It.mono {H H' : Hp} (s : Same H H') {v : V} (h : It H v) : It H' v := by
  cases h with
  | non => exact .non
  | bl b => exact .bl b
  | int i => exact .int i
  | one => exact .one
  | lst h => exact .lst (s _ _ h)
  | tup h => exact .tup (s _ _ h)
theorem It.it {H : Hp} {v : V} (h : It H v) : ∃ t, IT H v t := by
  cases h with
  | non => exact ⟨_, .non⟩
  | bl b => exact ⟨_, .bl b⟩
  | int i => exact ⟨_, .int i⟩
  | one => exact ⟨_, .str _⟩
  | lst h => exact ⟨_, .lst h⟩
  | tup h => exact ⟨_, .tup h⟩
theorem It.dp {H : Hp} {v : V} (h : It H v) : ∃ d, Dp K H v d ∧ d.canLay0 = true ∧ d.depth ≤ 2 := by
  cases h with
  | non => exact ⟨.none, .non, by rw [PyData.canLay0], by simp [PyData.depth]⟩
  | bl b => exact ⟨.bool b, .bl b, by rw [PyData.canLay0], by simp [PyData.depth]⟩
  | int i => exact ⟨.int i, .int i, lay_int i, by simp [PyData.depth]⟩
  | one => exact ⟨.str "1", .str _, lay_str (by decide +kernel), by simp [PyData.depth]⟩
  | lst h => exact ⟨.list [.int 0], .lst (SqL.of h) (.cons (.int 0) .nil), lay_list (lay_cons (lay_int 0) lay_nil), by simp [PyData.depth, PyData.depthAll]⟩
  | tup h => exact ⟨.tuple [], .tup (SqT.of h) .nil, lay_tup lay_nil, by simp [PyData.depth, PyData.depthAll]⟩
def Its (H : Hp) (ys : List V) : Prop := ∀ y ∈ ys, It H y
theorem Its.mono {H H' : Hp} (s : Same H H') {ys : List V} (h : Its H ys) : Its H' ys := fun y hy => (h y hy).mono s
theorem Its.its {H : Hp} {ys : List V} (h : Its H ys) : ITs H ys := fun y hy => (h y hy).it
theorem Its.nat {H : Hp} (w : List Nat) : Its H (nat2 w) := fun y hy => by
  obtain ⟨n, _, rfl⟩ := List.mem_map.mp hy
  exact .int _
theorem Its.dp {H : Hp} : ∀ {ys : List V}, Its H ys → ∃ ds, DpAll K H ys ds ∧ PyData.canLayAll0 ds = true ∧ PyData.depthAll ds ≤ 2
  | [], _ => ⟨[], .nil, lay_nil, by simp [PyData.depthAll]⟩
  | y :: ys, h => by
    obtain ⟨d, h1, h2, h3⟩ := (h y List.mem_cons_self).dp (K := K)
    obtain ⟨ds, g1, g2, g3⟩ := Its.dp (ys := ys) fun x hx => h x (List.mem_cons_of_mem _ hx)
    exact ⟨d :: ds, .cons h1 g1, lay_cons h2 g2, by rw [PyData.depthAll]; omega⟩
theorem Its.app {H : Hp} {xs ys : List V} (h : Its H xs) (k : Its H ys) : Its H (xs ++ ys) := fun y hy => by
  rcases List.mem_append.mp hy with hy | hy
  · exact h y hy
  · exact k y hy
theorem cutV_mem {xs : List V} {i j : Option Int} {y : V} (h : y ∈ cutV xs i j) : y ∈ xs := by
  unfold cutV at h
  exact List.mem_of_mem_drop (List.mem_of_mem_take h)
theorem cutV_len (xs : List V) (i j : Option Int) : (cutV xs i j).length ≤ xs.length := by
  unfold cutV
  rw [List.length_take, List.length_drop]
  omega
theorem Its.cut {H : Hp} {xs : List V} (h : Its H xs) (i j : Option Int) : Its H (cutV xs i j) := fun y hy => h y (cutV_mem hy)
theorem pickV {xs : List V} {i : Int} (h0 : 0 ≤ i) (h1 : i < (xs.length : Int)) : ∃ x ∈ xs, atI xs i = some x := by
  have hi : i.toNat < xs.length := by omega
  exact ⟨xs[i.toNat], List.getElem_mem hi, at_of (j := i.toNat) (by omega) (List.getElem?_eq_getElem hi)⟩
/-- a term that makes a list of so many things -/
def GW (H0 : Hp) (σ : L2.St) (te : TE) (n : Nat) : Prop := ∀ (H : Hp) (Q : VK), Same H0 H → (∀ (l : Addr) (xs : List V) (H' : Hp), Same H H' → H l = none → H' l = some (.lst xs) → Its H' xs → xs.length ≤ n → Q (.ref l) H') → te σ H Q
theorem GW.cut {H0 : Hp} {σ : L2.St} {a : Addr} {W : List V} {te : TE} {tl th : TO} {i j : Option Int} (ha : H0 a = some (.lst W)) (hW : Its H0 W) (h1 : ∀ H Q, Q (.ref a) H → te σ H Q) (h2 : ∀ H Q, Q i H → tl σ H Q) (h3 : ∀ H Q, Q j H → th σ H Q) :
    GW H0 σ (tSl (rSlL K) te tl th) W.length := fun H Q s k => h1 H _ (h2 H _ (h3 H _ ⟨a, W, rfl, SqL.of (s _ _ ha), fun p hp => k p _ _ (same_new hp) hp upd_same (((hW.mono s).mono (same_new hp)).cut i j) (cutV_len _ _ _)⟩))
theorem GW.cat {H0 : Hp} {σ : L2.St} {ta tb : TE} {n m : Nat} (h : GW H0 σ ta n) (g : GW H0 σ tb m) (z : n + m ≤ 9000000) : GW H0 σ (tOp rCat ta tb) (n + m) := fun H Q s k =>
  h H _ s fun l xs H1 s1 nl hl ix lx => g H1 _ (s.trans s1) fun l2 ys H2 s2 _ hl2 iy ly =>
    ⟨l, l2, xs, ys, rfl, rfl, s2 _ _ hl, hl2, by rw [sizeLine_eq]; omega, fun p hp => k p _ _ ((s1.trans s2).trans (same_new hp)) ((s1.trans s2).free hp) upd_same (((ix.mono s2).app iy).mono (same_new hp)) (by rw [List.length_append]; omega)⟩
theorem GW.one {H0 : Hp} {σ : L2.St} {te : TE} {x : V} (hx : It H0 x) (h : ∀ H Q, Same H0 H → Q x H → te σ H Q) : GW H0 σ (tLst (tCons te tNil)) 1 := fun H Q s k =>
  h H _ s ⟨sz (by show 1 ≤ 10000; decide), fun p hp => k p _ _ (same_new hp) hp upd_same (fun y hy => by
    rw [List.mem_singleton.mp hy]
    exact (hx.mono s).mono (same_new hp)) (Nat.le_refl _)⟩
def sp_put (K : PySem.W.Frag) : Sp := fun vs H Q _ => ∃ (a : Addr) (c : Int) (ws : List Nat), vs = [.ref a, .int c] ∧ H a = some (.lst (nat2 ws)) ∧ ws.length ≤ 3000000 ∧
  ∀ (r : Addr) (ys : List V) (H' : Hp), Same H H' → H' r = some (.lst ys) → Its H' ys → Q (.ref r) H'
theorem ok__law_put_otherwise (T : Txt w K mg) : FnOk P w K mg base CX0 1 T.f__law_put_otherwise T.fd__law_put_otherwise ["_law_way", "_law_cell"] (sp_put K) := by
  refine T.F__law_put_otherwise.ok sc__law_put_otherwise (fun vs H Q E h => ?_) (fun cdv A outer s H vs Q E hr h => ?_)
  · obtain ⟨a, c, ws, rfl, _⟩ := h
    rfl
  obtain ⟨a, c, ws, rfl, ha, hw, q⟩ := h
  have hW : Its H (nat2 ws) := Its.nat ws
  have ln : (nat2 ws).length = ws.length := nat2_len ws
  refine ⟨_, (pss_cons (ps_if (PW.pt (pw_and (pt_cmpR op_eq (pe_op op_mod (pv 1) pe_int) pe_int (nomark _)) (pw_and1 (pt_cmpR op_gt (pe_callB call_len_seq (by rfl) T.n_len PySem.boot_len (pa_cons (pv 0) pa_nil)) pe_int (nomark _)))))
    (pss_cons (ps_set (i := 2) sc__law_put_otherwise.nd rfl (.inl rfl) (pe_op op_mod (pe_op op_fdiv (pv 1) pe_int) (pe_callB call_len_seq (by rfl) T.n_len PySem.boot_len (pa_cons (pv 0) pa_nil))))
  (pss_one (ps_ret (pe_op op_cat (pe_op op_cat (pe_slice sl_list (pv 0) po_none (po_some (pv 2))) (pe_lst (pa_cons (pe_cmpR op_eq (pe_ix ix_list (pv 0) (pv 2) (fun _ _ => rfl)) pe_int (nomark _)) pa_nil))) (pe_slice sl_list (pv 0) (po_some (pe_op op_add (pv 2) pe_int)) po_none)))))
    pss_nil)
  (pss_cons (ps_set (i := 2) sc__law_put_otherwise.nd rfl (.inl rfl) (pe_op op_mod (pe_op op_fdiv (pv 1) pe_int) (pe_op op_add (pe_callB call_len_seq (by rfl) T.n_len PySem.boot_len (pa_cons (pv 0) pa_nil)) pe_int)))
  (pss_cons (ps_set (i := 3) sc__law_put_otherwise.nd rfl (.inl rfl) (pe_ix ix_list (pe_lst (pa_cons pe_int (pa_cons pe_int (pa_cons pe_bl (pa_cons pe_bl (pa_cons pe_int (pa_cons (pe_un un_neg pe_int) (pa_cons pe_str (pa_cons pe_non (pa_cons pe_int (pa_cons (pe_un un_neg pe_int) (pa_cons (pe_lst (pa_cons pe_int pa_nil)) (pa_cons (pe_tup pa_nil) pa_nil))))))))))))) (pe_op op_mod (pe_op op_fdiv (pv 1) pe_int) pe_int) (fun _ _ => rfl)))
  (pss_one (ps_ret (pe_ix ix_list (pe_lst (pa_cons (pe_op op_cat (pe_op op_cat (pe_slice sl_list (pv 0) po_none (po_some (pv 2))) (pe_lst (pa_cons (pv 3) pa_nil))) (pe_slice sl_list (pv 0) (po_some (pv 2)) po_none)) (pa_cons (pe_op op_cat (pe_slice sl_list (pv 0) po_none (po_some (pv 2))) (pe_slice sl_list (pv 0) (po_some (pe_op op_add (pv 2) pe_int)) po_none)) (pa_cons (pe_op op_cat (pe_op op_cat (pe_slice sl_list (pv 0) po_none (po_some (pv 2))) (pe_lst (pa_cons (pv 3) pa_nil))) (pe_slice sl_list (pv 0) (po_some (pe_op op_add (pv 2) pe_int)) po_none)) pa_nil)))) (pe_op op_mod (pv 1) pe_int) (fun _ _ => rfl))))))), ?_⟩
  refine seq_if (if_tst (b := decide (V.int (c % 5) = V.int 4) && decide ((0 : Int) < (((nat2 ws).length : Nat) : Int))) (tst_and (fun Q q => ⟨_, rfl, _, _, rfl, rfl, (by show (0 : Int) < 5; decide), rfl, _, rfl, q⟩) (fun Q q => ⟨_, rfl, a, _, rfl, .inl (SqL.of ha), _, _, rfl, rfl, _, rfl, q⟩)) (fun c1 => ?_) (fun c1 => e_nx ?_))
  · rw [Bool.and_eq_true] at c1
    have hl : (0 : Int) < (((nat2 ws).length : Nat) : Int) := of_decide_eq_true c1.2
    have k0 := Int.emod_nonneg (c / 5) (show (((nat2 ws).length : Nat) : Int) ≠ 0 by omega)
    have k1 := Int.emod_lt_of_pos (c / 5) hl
    obtain ⟨x, hx, ex⟩ := pickV (xs := nat2 ws) k0 k1
    obtain ⟨n, _, rfl⟩ := List.mem_map.mp hx
    refine ⟨_, rfl, _, _, rfl, rfl, ⟨by decide, by decide⟩, _, rfl, a, _, rfl, .inl (SqL.of ha), _, _, rfl, rfl, hl, ?_⟩
    have g1 := GW.cut (K := K) (σ := [some (.ref a), some (.int c), some (.int (c / 5 % (((nat2 ws).length : Nat) : Int))), none]) (te := tVar 0) (tl := tNoPart) (th := tPart (tVar 2)) (i := none) (j := some (c / 5 % (((nat2 ws).length : Nat) : Int))) ha hW (fun _ _ h => ⟨_, rfl, h⟩) (fun _ _ h => h) (fun _ _ h => ⟨_, rfl, _, rfl, h⟩)
    have g2 := GW.one (H0 := H) (σ := [some (.ref a), some (.int c), some (.int (c / 5 % (((nat2 ws).length : Nat) : Int))), none]) (te := tOp rEq (tOp (rIxL K) (tVar 0) (tVar 2)) (tC (.int 1))) (.bl (decide (V.int (n : Int) = V.int 1))) (fun H' Q s h => ⟨_, rfl, _, rfl, a, _, _, _, rfl, rfl, SqL.of (s _ _ ha), ex, rfl, h⟩)
    have g3 := GW.cut (K := K) (σ := [some (.ref a), some (.int c), some (.int (c / 5 % (((nat2 ws).length : Nat) : Int))), none]) (te := tVar 0) (tl := tPart (tOp (rI0 fun i j => .int (i + j)) (tVar 2) (tC (.int 1)))) (th := tNoPart) (i := some (c / 5 % (((nat2 ws).length : Nat) : Int) + 1)) (j := none) ha hW (fun _ _ h => ⟨_, rfl, h⟩) (fun _ _ h => ⟨_, rfl, _, _, rfl, rfl, _, rfl, h⟩) (fun _ _ h => h)
    exact ((g1.cat g2 (by rw [ln]; omega)).cat g3 (by rw [ln]; omega)) H _ (Same.refl _) fun l xs H' s' _ hl' ix _ => q l xs H' s' hl' ix
  have hl : (0 : Int) < (((nat2 ws).length : Nat) : Int) + 1 := by omega
  refine ⟨_, rfl, _, _, rfl, rfl, ⟨by decide, by decide⟩, _, rfl, a, _, rfl, .inl (SqL.of ha), _, _, rfl, rfl, _, _, rfl, rfl, hl, ?_⟩
  -- the odd thing
  have k0 := Int.emod_nonneg (c / 3) (show (12 : Int) ≠ 0 by decide)
  have k1 := Int.emod_lt_of_pos (c / 3) (show (0 : Int) < 12 by decide)
  refine ⟨_, rfl, _, rfl, sz (by show 1 ≤ 10000; decide), fun l1 n1 => ⟨Nat.zero_le _, fun t1 m1 => ⟨sz (by show 12 ≤ 10000; decide), fun l2 n2 => ?_⟩⟩⟩
  have s1 := same_new (o := .lst [.int 0]) n1
  have s2 := same_new (o := .tup []) m1
  have s3 := same_new (o := .lst [.int 0, .int 1, .bl true, .bl false, .int 2, .int (-1), .str "1", .non, .int 3, .int (-2), .ref l1, .ref t1]) n2
  have s13 := s1.trans (s2.trans s3)
  obtain ⟨x, hx, ex⟩ := pickV (xs := [.int 0, .int 1, .bl true, .bl false, .int 2, .int (-1), .str "1", .non, .int 3, .int (-2), .ref l1, .ref t1]) k0 k1
  refine ⟨_, rfl, _, _, rfl, rfl, ⟨by decide, by decide⟩, _, _, rfl, rfl, (by show (0 : Int) < 12; decide), l2, _, _, x, rfl, rfl, SqL.of upd_same, ex, ?_⟩
  have hx3 : It (upd (upd (upd H l1 (.lst [.int 0])) t1 (.tup [])) l2 (.lst [.int 0, .int 1, .bl true, .bl false, .int 2, .int (-1), .str "1", .non, .int 3, .int (-2), .ref l1, .ref t1])) x := by
    have hl1 := (s2.trans s3) _ _ (upd_same (H := H) (a := l1) (o := .lst [.int 0]))
    have ht1 := s3 _ _ (upd_same (H := upd H l1 (.lst [.int 0])) (a := t1) (o := .tup []))
    simp only [List.mem_cons, List.not_mem_nil, or_false] at hx
    rcases hx with rfl | rfl | rfl | rfl | rfl | rfl | rfl | rfl | rfl | rfl | rfl | rfl
    · exact .int _
    · exact .int _
    · exact .bl _
    · exact .bl _
    · exact .int _
    · exact .int _
    · exact .one
    · exact .non
    · exact .int _
    · exact .int _
    · exact .lst hl1
    · exact .tup ht1
  have ha3 := s13 _ _ ha
  generalize upd (upd (upd H l1 (.lst [.int 0])) t1 (.tup [])) l2 (.lst [.int 0, .int 1, .bl true, .bl false, .int 2, .int (-1), .str "1", .non, .int 3, .int (-2), .ref l1, .ref t1]) = H3 at s13 hx3 ha3
  have hW3 : Its H3 (nat2 ws) := Its.nat ws
  obtain ⟨k, hk⟩ : ∃ k : Int, k = c / 36 % ((((nat2 ws).length : Nat) : Int) + 1) := ⟨_, rfl⟩
  have gA := GW.cut (K := K) (σ := [some (.ref a), some (.int c), some (.int k), some x]) (te := tVar 0) (tl := tNoPart) (th := tPart (tVar 2)) (i := none) (j := some k) ha3 hW3 (fun _ _ h => ⟨_, rfl, h⟩) (fun _ _ h => h) (fun _ _ h => ⟨_, rfl, _, rfl, h⟩)
  have gX := GW.one (H0 := H3) (σ := [some (.ref a), some (.int c), some (.int k), some x]) (te := tVar 3) hx3 (fun H' Q s h => ⟨_, rfl, h⟩)
  have gB := GW.cut (K := K) (σ := [some (.ref a), some (.int c), some (.int k), some x]) (te := tVar 0) (tl := tPart (tVar 2)) (th := tNoPart) (i := some k) (j := none) ha3 hW3 (fun _ _ h => ⟨_, rfl, h⟩) (fun _ _ h => ⟨_, rfl, _, rfl, h⟩) (fun _ _ h => h)
  have gC := GW.cut (K := K) (σ := [some (.ref a), some (.int c), some (.int k), some x]) (te := tVar 0) (tl := tPart (tOp (rI0 fun i j => .int (i + j)) (tVar 2) (tC (.int 1)))) (th := tNoPart) (i := some (k + 1)) (j := none) ha3 hW3 (fun _ _ h => ⟨_, rfl, h⟩) (fun _ _ h => ⟨_, rfl, _, _, rfl, rfl, _, rfl, h⟩) (fun _ _ h => h)
  subst hk
  refine ((gA.cat gX (by rw [ln]; omega)).cat gB (by rw [ln]; omega)) H3 _ (Same.refl _) fun r1 y1 H4 s4 _ h4 i4 _ => ?_
  refine (gA.cat gC (by rw [ln]; omega)) H4 _ s4 fun r2 y2 H5 s5 _ h5 i5 _ => ?_
  refine ((gA.cat gX (by rw [ln]; omega)).cat gC (by rw [ln]; omega)) H5 _ (s4.trans s5) fun r3 y3 H6 s6 _ h6 i6 _ => ?_
  refine ⟨sz (by show 3 ≤ 10000; decide), fun l3 n3 => ?_⟩
  have s7 := same_new (o := .lst [.ref r1, .ref r2, .ref r3]) n3
  have j0 := Int.emod_nonneg c (show (3 : Int) ≠ 0 by decide)
  have j1 := Int.emod_lt_of_pos c (show (0 : Int) < 3 by decide)
  obtain ⟨y, hy, ey⟩ := pickV (xs := [.ref r1, .ref r2, .ref r3]) j0 j1
  refine ⟨_, rfl, _, _, rfl, rfl, (by show (0 : Int) < 3; decide), l3, _, _, y, rfl, rfl, SqL.of upd_same, ey, ?_⟩
  have s37 := s13.trans (s4.trans (s5.trans (s6.trans s7)))
  simp only [List.mem_cons, List.not_mem_nil, or_false] at hy
  rcases hy with rfl | rfl | rfl
  · exact q r1 y1 _ s37 ((s5.trans (s6.trans s7)) _ _ h4) (i4.mono (s5.trans (s6.trans s7)))
  · exact q r2 y2 _ s37 ((s6.trans s7) _ _ h5) (i5.mono (s6.trans s7))
  · exact q r3 y3 _ s37 (s7 _ _ h6) (i6.mono s7)

end
end G1

set_option maxRecDepth 100000
set_option maxHeartbeats 4000000
namespace G1
open PySem PySem.Spec PyProof.Rows L2 Gm
section
variable {P : Program} {w : World} {K : PySem.W.Frag} {mg : Str → Option Value} {base : Heap}
theorem hotC_suite {X : Cx} {a : Addr} {oe : Obj} {pn : List (Addr × Obj)} (hz : PXN.CtxN oe) (hf : ∃ vs, oe.data = .fields vs) : L2H.HotC (X.suite a ((a, oe) :: pn)) := by
  obtain ⟨vs, e⟩ := hf
  exact ⟨(a, oe), ⟨rfl, vs, e, hz vs e⟩, List.mem_cons_self⟩
theorem relV_ref {a : Addr} : ∀ u, RelV (.ref a) u → u = .ref a := fun u h => h
theorem relV_ty {t : String} : ∀ u, RelV (.ty t) u → u = .type t := fun u h => h
/-- a suite read for the error that has come -/
def sAnyC (X : Cx) (sts : List Stmt) (a : Addr) (cls : Value) (d : Option Addr) : L2.TS := fun D σ H =>
  ∃ R : L2.TS, (∀ (oe : Obj) (pn : List (Addr × Obj)), Zc cls d oe → (∃ vs, oe.data = .fields vs) → PSs (X.suite a ((a, oe) :: pn)) sts R) ∧ R D σ H
theorem pss_anyC {X : Cx} {sts : List Stmt} {a : Addr} {oe : Obj} {cls : Value} {d : Option Addr} {pn : List (Addr × Obj)} (hz : Zc cls d oe) (hf : ∃ vs, oe.data = .fields vs) : PSs (X.suite a ((a, oe) :: pn)) sts (sAnyC X sts a cls d) :=
  ⟨fun pins s σ H D I h => by
    obtain ⟨R, hR, h⟩ := h
    exact (hR oe pn hz hf).run pins s σ H D I h⟩
/-- handed a way that does not fit -/
def sp_refused (K : PySem.W.Frag) : Sp := fun vs H Q _ => ∃ (p : Pat) (v : V) (z : Str) (a : Addr) (ys : List V), vs = [v, .str z, .ref a] ∧ PAt K H p v ∧ siz p ≤ 1000 ∧ dep p ≤ 50 ∧ goodP p ∧ z.length ≤ 1000 ∧ H a = some (.lst ys) ∧ ITs H ys ∧
  Run z.cps.toList ([.pat p], 0) ys none ∧ ∀ H', Q (.bl true) H'
def isI (K : PySem.W.Frag) (D a : Addr) (c : V) : TE := tCB (rIsE K D a) (tCons (tVar 3) (tCons (tC c) tNil))
theorem hk__law_refused (T : Txt w K mg) : L2H.FnH P w K mg base CX0 6 T.f__law_refused T.fd__law_refused ["_law_pattern", "_law_text", "_law_way"] (sp_refused K) := by
  refine okH T.F__law_refused sc__law_refused (fun vs H Q E h => ?_) (fun cdv A outer s H vs Q E pp hot hc hr h => ?_)
  · obtain ⟨p, v, z, a, ys, rfl, _⟩ := h
    rfl
  obtain ⟨p, v, z, a, ys, rfl, hp, hsz, hdp, hg, hz, ha, hy, hrun, q⟩ := h
  have hct : ∀ (pn : List (Addr × Obj)) (xe : Value → Shared → Prop), (∀ q ∈ (L2H.cxH CX0 P w K mg base N__law_refused "_law_refused" (defScope s__law_refused) T.f__law_refused cdv A outer s H E pp).pn, q ∈ pn) →
      L2H.HotC ((L2H.cxH CX0 P w K mg base N__law_refused "_law_refused" (defScope s__law_refused) T.f__law_refused cdv A outer s H E pp).tr pn xe) := fun pn xe hq => by
    obtain ⟨p1, h1, h2⟩ := hc
    exact ⟨p1, h1, hq p1 h2⟩
  refine ⟨_, pss_cons (L2H.ps_try_asH (i := 3) (Wout := fun _ _ _ _ => False) (c := .ref T.c_MarkError) (tb := fun W => tDrop (tCallS (sp_walk T) (WE W) (tCons (tVar 0) (tCons (tVar 1) (tCons (tVar 2) tNil)))))
    (ts := fun a cls d => sAnyC _ _ a cls d) rfl rfl sc__law_refused.nd rfl rfl ⟨rfl, by decide, Or.inl T.g_MarkError⟩ takes0
    (fun W pn xe hq tk _ => pss_one (ps_expr (L2H.pe_callH (E := WE W) (hk_walk T) (hr.mono (by decide)) (hct pn xe hq) (by rfl) T.m_walk T.F_walk.kp T.b_walk (fun σ => passAt tk σ) (by exact (pa_cons (pv 0) (pa_cons (pv 1) (pa_cons (pv 2) pa_nil)))))))
    (fun _ _ _ _ _ hz hf => pss_anyC hz hf)) (pss_one (ps_ret pe_bl)), ?_⟩
  refine ⟨_, rfl, _, rfl, _, rfl, p, v, z, a, ys, none, rfl, hp, hsz, hdp, hg, hz, ha, hy, hrun, (fun L e => by cases e), fun _ H1 s1 => ?_⟩
  refine ⟨true, T.e_BadWay_MarkError, fun _ ae na => ?_, fun z => by cases z⟩
  refine ⟨tSeq (tAsg (tOrV (isI K T.c_BadWay ae (.ref T.c_BadPattern)) (tOrV (isI K T.c_BadWay ae (.ref T.c_TwiceNumbered)) (isI K T.c_BadWay ae (.ref T.c_EmptyRound)))) (gName 4))
    (tRet (tAndV (isI K T.c_BadWay ae (.ty "ValueError")) (tNotV (tVar 4)))), fun oe pn hz hf => ?h1, ?h2⟩
  case h1 =>
    have ci := call_isE (X := L2H.cxH CX0 P w K mg base N__law_refused "_law_refused" (defScope s__law_refused) T.f__law_refused cdv A outer s H E pp) (a := ae) (pn := pn) T.ei_BadWay hz hf
    exact pss_cons (ps_set (i := 4) sc__law_refused.nd rfl (.inl rfl) (pe_or (pe_callB ci (by rfl) T.n_isinstance (by decide +kernel) (pa_cons (pv 3) (pa_cons (pe_glob (v := .ref T.c_BadPattern) (by rfl) T.g_BadPattern rfl) pa_nil)))
      (pe_or (pe_callB ci (by rfl) T.n_isinstance (by decide +kernel) (pa_cons (pv 3) (pa_cons (pe_glob (v := .ref T.c_TwiceNumbered) (by rfl) T.g_TwiceNumbered rfl) pa_nil)))
      (pe_one (pe_callB ci (by rfl) T.n_isinstance (by decide +kernel) (pa_cons (pv 3) (pa_cons (pe_glob (v := .ref T.c_EmptyRound) (by rfl) T.g_EmptyRound rfl) pa_nil)))))))
      (pss_one (ps_ret (pe_and (pe_callB ci (by rfl) T.n_isinstance (by decide +kernel) (pa_cons (pv 3) (pa_cons (pe_bltn (v := .ty "ValueError") (by rfl) T.n_ValueError (by decide +kernel) rfl) pa_nil)))
      (pe_one (pe_not (pv 4))))))
  refine ⟨_, rfl, _, _, _, rfl, relV_ref, T.ki_BadWay_BadPattern, _, rfl, iteF ?_⟩
  refine ⟨_, rfl, _, _, _, rfl, relV_ref, T.ki_BadWay_TwiceNumbered, _, rfl, iteF ?_⟩
  refine ⟨_, rfl, _, _, _, rfl, relV_ref, T.ki_BadWay_EmptyRound, ?_⟩
  refine ⟨_, rfl, _, _, _, rfl, relV_ty, T.kv_BadWay, true, rfl, iteT ?_⟩
  exact ⟨_, rfl, false, rfl, q _⟩

end
end G1

set_option maxRecDepth 100000
set_option maxHeartbeats 4000000
namespace G1
open PySem PySem.Spec PyProof.Rows L2 Gm
section
variable {P : Program} {w : World} {K : PySem.W.Frag} {mg : Str → Option Value} {base : Heap}
theorem sqt_tx {H : Hp} {a : Addr} {xs : List V} (h : SqT K H a xs) : TyX K H (.ref a) (.type "tuple") := by
  rcases h with (h | ⟨u, h⟩) | ⟨o, its, n, e, c, _⟩
  · exact .base (.tup h)
  · exact .fTuple h
  · exact .kTuple e c
def spLaw (K : PySem.W.Frag) : Sp := fun vs H Q _ => ∃ (a : Addr) (ns : List Int), vs = [.ref a] ∧ SqL K H a (ns.map V.int) ∧ ns.length ≤ 63 ∧ ∀ H', Q (.bl true) H'
theorem ok_law (T : Txt w K mg) : FnOk P w K mg base CX0 7 T.f_law T.fd_law ["_law_script"] (spLaw K) := by
  refine T.F_law.ok sc_law (fun vs H Q E h => ?_) (fun cdv A outer s H vs Q E hr h => ?_)
  · obtain ⟨a, ns, rfl, _⟩ := h
    rfl
  obtain ⟨a, ns, rfl, ha, h63, q⟩ := h
  refine ⟨_, (pss_cons (ps_set (i := 1) sc_law.nd rfl (.inl rfl) (pe_call (ok__law_cell_at T) (hr.mono (by decide)) (by rfl) T.m__law_cell_at T.F__law_cell_at.kp T.b__law_cell_at .nil pass0 (pa_cons (pv 0) (pa_cons pe_int pa_nil))))
  (pss_cons (ps_set (i := 2) sc_law.nd rfl (.inl rfl) (pe_call (ok__law_made T) (hr.mono (by decide)) (by rfl) T.m__law_made T.F__law_made.kp T.b__law_made .nil pass0 (pa_cons (pe_slice sl_list (pv 0) (po_some pe_int) (po_some pe_int)) (pa_cons (pv 1) pa_nil))))
  (pss_cons (ps_set (i := 3) sc_law.nd rfl (.inl rfl) (pe_ix ix_tup (pv 2) pe_int (fun _ _ => rfl)))
  (pss_cons (ps_set (i := 4) sc_law.nd rfl (.inl rfl) (pe_ix ix_tup (pv 2) pe_int (fun _ _ => rfl)))
  (C8.pss_cut (ps_if (pt_cmpR op_eq (pe_op op_mod (pe_call (ok__law_cell_at T) (hr.mono (by decide)) (by rfl) T.m__law_cell_at T.F__law_cell_at.kp T.b__law_cell_at .nil pass0 (pa_cons (pv 0) (pa_cons pe_int pa_nil))) pe_int) pe_int (nomark _))
    (pss_one (ps_set (i := 3) sc_law.nd rfl (.inl rfl) (pe_call (ok__law_changed T) (hr.mono (by decide)) (by rfl) T.m__law_changed T.F__law_changed.kp T.b__law_changed .nil pass0 (pa_cons (pv 3) (pa_cons (pe_call (ok__law_cell_at T) (hr.mono (by decide)) (by rfl) T.m__law_cell_at T.F__law_cell_at.kp T.b__law_cell_at .nil pass0 (pa_cons (pv 0) (pa_cons pe_int pa_nil))) (pa_cons (pv 1) pa_nil))))))
    pss_nil)
  (C8.pss_cut (ps_if (pt_cmpR op_eq (pe_op op_mod (pe_call (ok__law_cell_at T) (hr.mono (by decide)) (by rfl) T.m__law_cell_at T.F__law_cell_at.kp T.b__law_cell_at .nil pass0 (pa_cons (pv 0) (pa_cons pe_int pa_nil))) pe_int) pe_int (nomark _))
    (pss_one (ps_set (i := 4) sc_law.nd rfl (.inl rfl) (pe_call (ok__law_put_otherwise T) (hr.mono (by decide)) (by rfl) T.m__law_put_otherwise T.F__law_put_otherwise.kp T.b__law_put_otherwise .nil pass0 (pa_cons (pv 4) (pa_cons (pe_call (ok__law_cell_at T) (hr.mono (by decide)) (by rfl) T.m__law_cell_at T.F__law_cell_at.kp T.b__law_cell_at .nil pass0 (pa_cons (pv 0) (pa_cons pe_int pa_nil))) pa_nil)))))
    pss_nil)
  (pss_cons (ps_set (i := 5) sc_law.nd rfl (.inl rfl) (pe_call (ok__law_walked T) (hr.mono (by decide)) (by rfl) T.m__law_walked T.F__law_walked.kp T.b__law_walked .nil pass0 (pa_cons (pe_ix ix_tup (pv 2) pe_int (fun _ _ => rfl)) (pa_cons (pv 3) (pa_cons (pv 4) pa_nil)))))
  (pss_cons (ps_set (i := 6) sc_law.nd rfl (.inl rfl) (pe_callTy call_list_of (by rfl) T.n_list PyProof.Rows.boot_list (pa_cons (pv 4) pa_nil)))
  (pss_cons (ps_set (i := 7) sc_law.nd rfl (.inl rfl) pe_non)
  (pss_cons (L2N.ps_try_many (Wout := fun _ _ _ _ => False) (tb := fun W => tAsg (tCallS (sp_walk T) (WE W) (tCons (tOp (rIxT K) (tVar 2) (tC (.int 0))) (tCons (tVar 3) (tCons (tVar 6) tNil)))) (gName 7))
    (l := [(.ref T.c_BadWay, fun _ _ _ => tRet (tAndV (tOp (fun x y H Q => y = .non ∧ Q (.bl (decide (x = .non))) H) (tVar 5) (tC .non)) (tAndV (tOp (rEqD K) (tVar 6) (tVar 4)) (tCallS (sp_refused K) (fun _ => E0) (tCons (tOp (rIxT K) (tVar 2) (tC (.int 0))) (tCons (tVar 3) (tCons (tVar 4) tNil)))))))]) rfl rfl takesN0
    (fun W pn xe tk _ => pss_one (ps_set (i := 7) sc_law.nd rfl (.inl rfl) (pe_callS (ok_walk T) (hr.mono (by decide)) (by rfl) T.m_walk T.F_walk.kp T.b_walk (fun σ => L2N.passAt tk σ) (by exact (pa_cons (pe_ix ix_tup (pv 2) pe_int (fun _ _ => rfl)) (pa_cons (pv 3) (pa_cons (pv 6) pa_nil)))))))
    (.cons ⟨rfl, by decide, Or.inl T.g_BadWay⟩ (fun a oe cls d pn hz hf => pss_one (ps_ret (pe_and (pe_cmpR op_isN (pv 5) pe_non (nomark _)) (pe_and (pe_cmpR (op_eqD hr.units) (pv 6) (pv 4) (nomark _))
      (pe_one (L2H.pe_callH (E := fun _ => E0) (hk__law_refused T) ⟨hr.dp, hr.un⟩ (hotC_suite hz.2.2 hf) (by rfl) T.m__law_refused T.F__law_refused.kp T.b__law_refused (fun _ _ _ _ _ _ _ h => h.elim) (by exact (pa_cons (pe_ix ix_tup (pv 2) pe_int (fun _ _ => rfl)) (pa_cons (pv 3) (pa_cons (pv 4) pa_nil)))))))))) .nil))
  (pss_cons (ps_if (PW.pt (pw_or (pt_cmpR op_isN (pv 5) pe_non (nomark _)) (pw_or (pt_not (pt_val (pe_callB call_isi (by rfl) T.n_isinstance (by decide +kernel) (pa_cons (pv 7) (pa_cons (pe_bltn (v := .ty "list") (by rfl) T.n_list (by decide +kernel) rfl) pa_nil))))) (pw_or (pt_cmpR op_ne (pe_callB call_len_seq (by rfl) T.n_len PySem.boot_len (pa_cons (pv 6) pa_nil)) (pe_callB call_len_seq (by rfl) T.n_len PySem.boot_len (pa_cons (pv 4) pa_nil)) (nomark _)) (pw_or1 (pt_cmpR op_ne (pe_callB call_len_seq (by rfl) T.n_len PySem.boot_len (pa_cons (pv 7) pa_nil)) (pe_callB call_len_seq (by rfl) T.n_len PySem.boot_len (pa_cons (pv 5) pa_nil)) (nomark _)))))))
    (pss_one (ps_ret pe_bl))
    pss_nil)
  (pss_cons (ps_for PassesOwn.never rfl (pi_list (pv 7)) (pg_name (i := 8) sc_law.nd rfl (.inl rfl))
   (pss_one (ps_if (PW.pt (pw_or (pt_not (pt_val (pe_callB call_isi (by rfl) T.n_isinstance (by decide +kernel) (pa_cons (pv 8) (pa_cons (pe_bltn (v := .ty "tuple") (by rfl) T.n_tuple (by decide +kernel) rfl) pa_nil))))) (pw_or (pt_cmpR op_ne (pe_callB call_len_seq (by rfl) T.n_len PySem.boot_len (pa_cons (pv 8) pa_nil)) pe_int (nomark _)) (pw_or (pt_not (pt_val (pe_callB call_isi (by rfl) T.n_isinstance (by decide +kernel) (pa_cons (pe_ix ix_tup (pv 8) pe_int (fun _ _ => rfl)) (pa_cons (pe_bltn (v := .ty "int") (by rfl) T.n_int (by decide +kernel) rfl) pa_nil))))) (pw_or1 (pt_val (pe_callB call_isi (by rfl) T.n_isinstance (by decide +kernel) (pa_cons (pe_ix ix_tup (pv 8) pe_int (fun _ _ => rfl)) (pa_cons (pe_bltn (v := .ty "bool") (by rfl) T.n_bool (by decide +kernel) rfl) pa_nil)))))))))
    (pss_one (ps_ret pe_bl))
    pss_nil)))
  (pss_one (ps_ret (pe_and (pe_cmpR (op_eqD hr.units) (pv 7) (pv 5) (nomark _)) (pe_one (pe_cmpR (op_eqD hr.units) (pv 6) (pv 4) (nomark _)))))))))))))))))), ?_⟩
  refine ⟨_, rfl, a, ns, 0, rfl, ha, ?_⟩
  refine ⟨_, rfl, _, rfl, _, rfl, a, _, rfl, ha, fun l1 n1 => ?_⟩
  obtain ⟨ns1, e1, z1⟩ := cut_int ns 3 19
  have s1 := same_new (o := .lst (cutV (ns.map V.int) (some 3) (some 19))) n1
  refine ⟨_, rfl, l1, ns1, cellAt ns 0, rfl, by rw [← e1]; exact SqL.of upd_same, by omega, fun v m H1 s2 u md => ?_⟩
  have s12 := s1.trans s2
  have d1 := md.sz
  have d2 := md.dp
  have d3 := md.ln
  obtain ⟨p, z0⟩ := m
  obtain ⟨t, x, l, wd, rfl, ht, hp, hl, _, hn, bk⟩ := u
  simp only at d1 d2 d3 ht hp hn bk
  have hsz : siz p ≤ 1000 := by omega
  have hdp : dep p ≤ 50 := by omega
  have hg : goodP p := good_of md.nd hn
  have lw : wd.length < 3000000 := tb_len bk hn hsz (by rw [str_len]; omega)
  refine ⟨_, rfl, _, _, _, _, rfl, rfl, ht, at2 rfl, _, rfl, _, _, _, _, rfl, rfl, ht, at3 rfl, ?_⟩
  refine ⟨fun σ' H' => ∃ z : Str, σ' = [some (.ref a), some (.int (cellAt ns 0)), some (.ref t), some (.str z), some (.ref l), none, none, none, none] ∧ Same H1 H' ∧ z.length ≤ 1000, ?_, ?_⟩
  · refine ⟨_, rfl, a, ns, 1, rfl, s12.seq ha, _, _, rfl, rfl, (by show (0 : Int) < 4; decide), rfl, _, rfl, ?_⟩
    refine ite2 (fun _ => ?_) (fun _ => ?_)
    · exact ⟨_, rfl, _, rfl, a, ns, 2, rfl, s12.seq ha, _, rfl, z0, cellAt ns 2, cellAt ns 0, rfl, by omega, fun y H2 s2 ly => ⟨y, rfl, s2, by omega⟩⟩
    · exact ⟨z0, rfl, Same.refl _, by omega⟩
  rintro σ' H2 ⟨z, rfl, s3, lz⟩
  have s13 := s12.trans s3
  refine ⟨fun σ' H' => ∃ (aw : Addr) (ys : List V), σ' = [some (.ref a), some (.int (cellAt ns 0)), some (.ref t), some (.str z), some (.ref aw), none, none, none, none] ∧ Same H2 H' ∧ H' aw = some (.lst ys) ∧ Its H' ys, ?_, ?_⟩
  · refine ⟨_, rfl, a, ns, 1, rfl, s13.seq ha, _, _, rfl, rfl, (by show (0 : Int) < 4; decide), rfl, _, rfl, ?_⟩
    refine ite2 (fun _ => ?_) (fun _ => ?_)
    · exact ⟨_, rfl, _, rfl, a, ns, 2, rfl, s13.seq ha, l, cellAt ns 2, wd, rfl, s3 _ _ hl, by omega, fun r ys H3 s4 h3 i3 => ⟨r, ys, rfl, s4, h3, i3⟩⟩
    · exact ⟨l, _, rfl, Same.refl _, s3 _ _ hl, Its.nat wd⟩
  rintro σ' H3 ⟨aw, ys, rfl, s4, haw, hys⟩
  have s34 := s3.trans s4
  have ht3 := TS.of (K := K) s34 _ _ ht
  have hp3 := hp.mono (TS.of (K := K) s34)
  obtain ⟨R, hrun⟩ := run_ex hn (SOk.first p z.cps.toList) ys
  cases R with
  | none =>
    refine ⟨_, rfl, _, _, _, _, rfl, rfl, ht3, at0 rfl, _, rfl, _, rfl, p, x, z, aw, ys, none, rfl, hp3, hsz, hdp, hg, lz, haw, hys.its, hrun, (fun L e => by cases e), fun _ H4 s5 => ?_⟩
    have haw4 := s5 _ _ haw
    refine ⟨_, rfl, aw, ys, rfl, .inl (SqL.of haw4), fun lh nh => ?_⟩
    have s6 := same_new (o := .lst ys) nh
    have s56 := s5.trans s6
    have ht5 := TS.of (K := K) s56 _ _ ht3
    refine ⟨_, rfl, _, _, _, _, rfl, rfl, ht5, at0 rfl, _, rfl, _, rfl, p, x, z, lh, ys, none, rfl, hp3.mono (TS.of s56), hsz, hdp, hg, lz, upd_same, (hys.mono s56).its, hrun, (fun L e => by cases e), fun _ H6 s7 => ?_⟩
    refine ⟨_, T.e_BadWay_BadWay, fun _ ae na => ?_, fun z => by cases z⟩
    refine ⟨_, rfl, rfl, _, rfl, iteT ?_⟩
    have hy6 := (hys.mono s56).mono s7
    obtain ⟨ds, g1, g2, g3⟩ := hy6.dp (K := K)
    have sh : SeqAt.shaped (.list ds) = true := shaped_of (lay_list g2) (by rw [PyData.depth]; omega)
    refine ⟨_, rfl, _, rfl, .list ds, .list ds, .lst (SqL.of (s7 _ _ upd_same)) g1, .lst (SqL.of ((s6.trans s7) _ _ haw4)) g1, sh, sh, ?_⟩
    have er : PyData.eqv (.list ds) (.list ds) = true := SeqAt.eqv_refl _ (lay_list g2)
    rw [er]
    refine ⟨_, rfl, iteT ?_⟩
    have ht6 := TS.of (K := K) s7 _ _ ht5
    exact ⟨_, rfl, _, _, _, _, rfl, rfl, ht6, at0 rfl, _, rfl, _, rfl, p, x, z, aw, ys, rfl, (hp3.mono (TS.of s56)).mono (TS.of s7), hsz, hdp, hg, lz, (s6.trans s7) _ _ haw4, hy6.its, hrun, fun H' => q _⟩
  | some L =>
    refine ⟨_, rfl, _, _, _, _, rfl, rfl, ht3, at0 rfl, _, rfl, _, rfl, p, x, z, aw, ys, some L, rfl, hp3, hsz, hdp, hg, lz, haw, hys.its, hrun, (fun L' eL rd us H4 s5 hrd hus => ?_), fun e => by cases e⟩
    cases eL
    have haw4 := s5 _ _ haw
    refine ⟨_, rfl, aw, ys, rfl, .inl (SqL.of haw4), fun lh nh => ?_⟩
    have s6 := same_new (o := .lst ys) nh
    have s56 := s5.trans s6
    have ht5 := TS.of (K := K) s56 _ _ ht3
    refine ⟨_, rfl, _, _, _, _, rfl, rfl, ht5, at0 rfl, _, rfl, _, rfl, p, x, z, lh, ys, some L, rfl, hp3.mono (TS.of s56), hsz, hdp, hg, lz, upd_same, (hys.mono s56).its, hrun, (fun L' eL rf ts H6 s7 nr hrf hts lL okL => ?_), fun e => by cases e⟩
    cases eL
    have s67 := s6.trans s7
    have hrd6 := s67 _ _ hrd
    have hus6 := SAts.mono (TS.of (K := K) s67) hus
    have hlh6 := s7 _ _ (upd_same (H := H4) (a := lh) (o := .lst ys))
    have haw6 := s67 _ _ haw4
    have lts : L.length = ts.length := Paired.length hts
    have lus : L.length = us.length := Paired.length hus
    refine ⟨_, rfl, rfl, _, rfl, iteF ?_⟩
    refine ⟨_, rfl, _, _, _, _, true, rfl, .ty _, .base (.lst hrf), kit_ty (by decide +kernel), _, rfl, iteF ?_⟩
    refine ⟨_, rfl, lh, _, rfl, .inl (SqL.of hlh6), _, rfl, aw, _, rfl, .inl (SqL.of haw6), rfl, _, rfl, ite2 (fun c => ?_) (fun _ => ?_)⟩
    · have c : (!decide (V.int ((ys.length : Nat) : Int) = V.int ((ys.length : Nat) : Int))) = true := c
      rw [decide_eq_true rfl] at c
      cases c
    refine ⟨_, rfl, rf, _, rfl, .inl (SqL.of hrf), _, rfl, rd, _, rfl, .inl (SqL.of hrd6), rfl, _, rfl, ite2 (fun c => ?_) (fun _ => ?_)⟩
    · have c : (!decide (V.int ((ts.length : Nat) : Int) = V.int ((us.length : Nat) : Int))) = true := c
      rw [decide_eq_true (by rw [← lts, ← lus])] at c
      cases c
    refine ⟨_, rfl, rf, rfl, ⟨_, SqL.of hrf⟩, for_list (K := K) (a := rf) (xs := ts) (fun _ σ H' => H' = H6 ∧ ∃ y : Option V, σ = [some (.ref a), some (.int (cellAt ns 0)), some (.ref t), some (.str z), some (.ref aw), some (.ref rd), some (.ref lh), some (.ref rf), y]) ⟨rfl, none, rfl⟩
      (fun i σ H' _ hI => by rw [hI.1]; exact SqL.of hrf) ?_ ?_⟩
    · rintro i y σ H' hi ⟨rfl, y', rfl⟩
      obtain ⟨st, _, sa, sx, rfl, hsa, _⟩ := Paired.at hts hi
      refine ⟨_, rfl, _, _, _, _, true, rfl, .ty _, sqt_tx hsa, kit_ty (by decide +kernel), _, rfl, iteF ?_⟩
      refine ⟨_, rfl, sa, _, rfl, .inr hsa, rfl, _, rfl, iteF ?_⟩
      refine ⟨_, rfl, _, _, _, _, rfl, rfl, hsa, at1 rfl, _, _, _, _, true, rfl, .ty _, .base (.int _), kit_ty (by decide +kernel), _, rfl, iteF ?_⟩
      refine ⟨_, rfl, _, _, _, _, rfl, rfl, hsa, at1 rfl, _, _, _, _, false, rfl, .ty _, .base (.int _), kit_ty (by decide +kernel), _, rfl, iteF ?_⟩
      exact ⟨rfl, _, rfl⟩
    · rintro σ H' ⟨rfl, y', rfl⟩
      have gL : ∀ s ∈ L, gd 50 s.1 := fun s hs t ht => Nat.le_trans ((allr_ok hn _ (okL s hs).1).gd t ht) hdp
      have shL : SeqAt.shaped (.list (L.map spd)) = true := shaped_of (lay_list (SAts.lay hts)) (by
        have := spds_depth gL
        rw [PyData.depth]
        omega)
      refine ⟨_, rfl, _, rfl, .list (L.map spd), .list (L.map spd), .lst (SqL.of hrf) (SAts.dp hts), .lst (SqL.of hrd6) (SAts.dp hus6), shL, shL, ?_⟩
      have erL : PyData.eqv (.list (L.map spd)) (.list (L.map spd)) = true := SeqAt.eqv_refl _ (lay_list (SAts.lay hts))
      rw [erL]
      refine ⟨_, rfl, iteT ?_⟩
      have hy6 := (hys.mono s56).mono s7
      obtain ⟨ds, g1, g2, g3⟩ := hy6.dp (K := K)
      have sh : SeqAt.shaped (.list ds) = true := shaped_of (lay_list g2) (by rw [PyData.depth]; omega)
      refine ⟨_, rfl, _, rfl, .list ds, .list ds, .lst (SqL.of hlh6) g1, .lst (SqL.of haw6) g1, sh, sh, ?_⟩
      have er : PyData.eqv (.list ds) (.list ds) = true := SeqAt.eqv_refl _ (lay_list g2)
      rw [er]
      exact q _

end
end G1

set_option maxRecDepth 100000
set_option maxHeartbeats 4000000
namespace G1
open PySem PySem.Spec PyProof.Rows L2 Gm
theorem all_mk {l : PySem.W.OpenLaw} {w : World} {K : PySem.W.Frag} {h : Heap} {mg : Str → Option Value} {fa : Addr} (X : K.In h) (G : h.Ns mainGlobals mg) (hfa : mg "law" = some (.ref fa))
    {f0 : Addr} {od0 an0 : Option Addr} {sl0 : Array (Option Value)} {oc0 kV0 dc0 pm0 cd0 ct0 : Value}
    {f1 : Addr} {od1 an1 : Option Addr} {sl1 : Array (Option Value)} {oc1 kV1 dc1 pm1 cd1 ct1 : Value}
    {f2 : Addr} {od2 an2 : Option Addr} {sl2 : Array (Option Value)} {oc2 kV2 dc2 pm2 cd2 ct2 : Value}
    {f3 : Addr} {od3 an3 : Option Addr} {sl3 : Array (Option Value)} {oc3 kV3 dc3 pm3 cd3 ct3 : Value}
    {f4 : Addr} {od4 an4 : Option Addr} {sl4 : Array (Option Value)} {oc4 kV4 dc4 pm4 cd4 ct4 : Value}
    {f5 : Addr} {od5 an5 : Option Addr} {sl5 : Array (Option Value)} {oc5 kV5 dc5 pm5 cd5 ct5 : Value}
    {f6 : Addr} {od6 an6 : Option Addr} {sl6 : Array (Option Value)} {oc6 kV6 dc6 pm6 cd6 ct6 : Value}
    {f7 : Addr} {od7 an7 : Option Addr} {sl7 : Array (Option Value)} {oc7 kV7 dc7 pm7 cd7 ct7 : Value}
    {f8 : Addr} {od8 an8 : Option Addr} {sl8 : Array (Option Value)} {oc8 kV8 dc8 pm8 cd8 ct8 : Value}
    {f9 : Addr} {od9 an9 : Option Addr} {sl9 : Array (Option Value)} {oc9 kV9 dc9 pm9 cd9 ct9 : Value}
    {f10 : Addr} {od10 an10 : Option Addr} {sl10 : Array (Option Value)} {oc10 kV10 dc10 pm10 cd10 ct10 : Value}
    {f11 : Addr} {od11 an11 : Option Addr} {sl11 : Array (Option Value)} {oc11 kV11 dc11 pm11 cd11 ct11 : Value}
    {f12 : Addr} {od12 an12 : Option Addr} {sl12 : Array (Option Value)} {oc12 kV12 dc12 pm12 cd12 ct12 : Value}
    {f13 : Addr} {od13 an13 : Option Addr} {sl13 : Array (Option Value)} {oc13 kV13 dc13 pm13 cd13 ct13 : Value}
    {f14 : Addr} {od14 an14 : Option Addr} {sl14 : Array (Option Value)} {oc14 kV14 dc14 pm14 cd14 ct14 : Value}
    {f15 : Addr} {od15 an15 : Option Addr} {sl15 : Array (Option Value)} {oc15 kV15 dc15 pm15 cd15 ct15 : Value}
    {f16 : Addr} {od16 an16 : Option Addr} {sl16 : Array (Option Value)} {oc16 kV16 dc16 pm16 cd16 ct16 : Value}
    {f17 : Addr} {od17 an17 : Option Addr} {sl17 : Array (Option Value)} {oc17 kV17 dc17 pm17 cd17 ct17 : Value}
    {f18 : Addr} {od18 an18 : Option Addr} {sl18 : Array (Option Value)} {oc18 kV18 dc18 pm18 cd18 ct18 : Value}
    {f19 : Addr} {od19 an19 : Option Addr} {sl19 : Array (Option Value)} {oc19 kV19 dc19 pm19 cd19 ct19 : Value}
    {f20 : Addr} {od20 an20 : Option Addr} {sl20 : Array (Option Value)} {oc20 kV20 dc20 pm20 cd20 ct20 : Value}
    {f21 : Addr} {od21 an21 : Option Addr} {sl21 : Array (Option Value)} {oc21 kV21 dc21 pm21 cd21 ct21 : Value}
    {f22 : Addr} {od22 an22 : Option Addr} {sl22 : Array (Option Value)} {oc22 kV22 dc22 pm22 cd22 ct22 : Value}
    {f23 : Addr} {od23 an23 : Option Addr} {sl23 : Array (Option Value)} {oc23 kV23 dc23 pm23 cd23 ct23 : Value}
    {f24 : Addr} {od24 an24 : Option Addr} {sl24 : Array (Option Value)} {oc24 kV24 dc24 pm24 cd24 ct24 : Value}
    {f25 : Addr} {od25 an25 : Option Addr} {sl25 : Array (Option Value)} {oc25 kV25 dc25 pm25 cd25 ct25 : Value}
    {f26 : Addr} {od26 an26 : Option Addr} {sl26 : Array (Option Value)} {oc26 kV26 dc26 pm26 cd26 ct26 : Value}
    {f27 : Addr} {od27 an27 : Option Addr} {sl27 : Array (Option Value)} {oc27 kV27 dc27 pm27 cd27 ct27 : Value}
    {f28 : Addr} {od28 an28 : Option Addr} {sl28 : Array (Option Value)} {oc28 kV28 dc28 pm28 cd28 ct28 : Value}
    {f29 : Addr} {od29 an29 : Option Addr} {sl29 : Array (Option Value)} {oc29 kV29 dc29 pm29 cd29 ct29 : Value}
    {f30 : Addr} {od30 an30 : Option Addr} {sl30 : Array (Option Value)} {oc30 kV30 dc30 pm30 cd30 ct30 : Value}
    {dL : Addr} {esL : Array DictEntry} {nL : Nat}
    {tk0 : Tok}
    {tk1 : Tok}
    {tk2 : Tok}
    {tk3 : Tok}
    {tk4 : Tok}
    {tk5 : Tok}
    {tk6 : Tok}
    {tk7 : Tok}
    {cMarkError : Addr}
    {cBadPattern : Addr}
    {cTwiceNumbered : Addr}
    {cEmptyRound : Addr}
    {cBadWay : Addr}
    (a0 : PySem.W.nsIn K mainGlobals "parts" = some (some (.ref f0))) (l0 : K.lookup f0 = some ⟨oc0, od0, .func (PySem.W.fnOf "parts" "parts" (defArgs s_parts) (defBody s_parts) (defScope s_parts) .none kV0 dc0 pm0 an0 cd0 ct0), sl0⟩) (c0 : PySem.W.codeIn K cd0 "parts" = true) (k0 : PySem.W.keepIn K (.ref f0) = true)
    (a1 : PySem.W.nsIn K mainGlobals "checked" = some (some (.ref f1))) (l1 : K.lookup f1 = some ⟨oc1, od1, .func (PySem.W.fnOf "checked" "checked" (defArgs s_checked) (defBody s_checked) (defScope s_checked) .none kV1 dc1 pm1 an1 cd1 ct1), sl1⟩) (c1 : PySem.W.codeIn K cd1 "checked" = true) (k1 : PySem.W.keepIn K (.ref f1) = true)
    (a2 : PySem.W.nsIn K mainGlobals "_has_form" = some (some (.ref f2))) (l2 : K.lookup f2 = some ⟨oc2, od2, .func (PySem.W.fnOf "_has_form" "_has_form" (defArgs s__has_form) (defBody s__has_form) (defScope s__has_form) .none kV2 dc2 pm2 an2 cd2 ct2), sl2⟩) (c2 : PySem.W.codeIn K cd2 "_has_form" = true) (k2 : PySem.W.keepIn K (.ref f2) = true)
    (a3 : PySem.W.nsIn K mainGlobals "_is_sign" = some (some (.ref f3))) (l3 : K.lookup f3 = some ⟨oc3, od3, .func (PySem.W.fnOf "_is_sign" "_is_sign" (defArgs s__is_sign) (defBody s__is_sign) (defScope s__is_sign) .none kV3 dc3 pm3 an3 cd3 ct3), sl3⟩) (c3 : PySem.W.codeIn K cd3 "_is_sign" = true) (k3 : PySem.W.keepIn K (.ref f3) = true)
    (a4 : PySem.W.nsIn K mainGlobals "_is_group_number" = some (some (.ref f4))) (l4 : K.lookup f4 = some ⟨oc4, od4, .func (PySem.W.fnOf "_is_group_number" "_is_group_number" (defArgs s__is_group_number) (defBody s__is_group_number) (defScope s__is_group_number) .none kV4 dc4 pm4 an4 cd4 ct4), sl4⟩) (c4 : PySem.W.codeIn K cd4 "_is_group_number" = true) (k4 : PySem.W.keepIn K (.ref f4) = true)
    (a5 : PySem.W.nsIn K mainGlobals "_inner" = some (some (.ref f5))) (l5 : K.lookup f5 = some ⟨oc5, od5, .func (PySem.W.fnOf "_inner" "_inner" (defArgs s__inner) (defBody s__inner) (defScope s__inner) .none kV5 dc5 pm5 an5 cd5 ct5), sl5⟩) (c5 : PySem.W.codeIn K cd5 "_inner" = true) (k5 : PySem.W.keepIn K (.ref f5) = true)
    (a6 : PySem.W.nsIn K mainGlobals "_numbers_among" = some (some (.ref f6))) (l6 : K.lookup f6 = some ⟨oc6, od6, .func (PySem.W.fnOf "_numbers_among" "_numbers_among" (defArgs s__numbers_among) (defBody s__numbers_among) (defScope s__numbers_among) .none kV6 dc6 pm6 an6 cd6 ct6), sl6⟩) (c6 : PySem.W.codeIn K cd6 "_numbers_among" = true) (k6 : PySem.W.keepIn K (.ref f6) = true)
    (a7 : PySem.W.nsIn K mainGlobals "_has_twins" = some (some (.ref f7))) (l7 : K.lookup f7 = some ⟨oc7, od7, .func (PySem.W.fnOf "_has_twins" "_has_twins" (defArgs s__has_twins) (defBody s__has_twins) (defScope s__has_twins) .none kV7 dc7 pm7 an7 cd7 ct7), sl7⟩) (c7 : PySem.W.codeIn K cd7 "_has_twins" = true) (k7 : PySem.W.keepIn K (.ref f7) = true)
    (a8 : PySem.W.nsIn K mainGlobals "_takings" = some (some (.ref f8))) (l8 : K.lookup f8 = some ⟨oc8, od8, .func (PySem.W.fnOf "_takings" "_takings" (defArgs s__takings) (defBody s__takings) (defScope s__takings) .none kV8 dc8 pm8 an8 cd8 ct8), sl8⟩) (c8 : PySem.W.codeIn K cd8 "_takings" = true) (k8 : PySem.W.keepIn K (.ref f8) = true)
    (a9 : PySem.W.nsIn K mainGlobals "_may_take_nothing" = some (some (.ref f9))) (l9 : K.lookup f9 = some ⟨oc9, od9, .func (PySem.W.fnOf "_may_take_nothing" "_may_take_nothing" (defArgs s__may_take_nothing) (defBody s__may_take_nothing) (defScope s__may_take_nothing) .none kV9 dc9 pm9 an9 cd9 ct9), sl9⟩) (c9 : PySem.W.codeIn K cd9 "_may_take_nothing" = true) (k9 : PySem.W.keepIn K (.ref f9) = true)
    (a10 : PySem.W.nsIn K mainGlobals "_has_empty_round" = some (some (.ref f10))) (l10 : K.lookup f10 = some ⟨oc10, od10, .func (PySem.W.fnOf "_has_empty_round" "_has_empty_round" (defArgs s__has_empty_round) (defBody s__has_empty_round) (defScope s__has_empty_round) .none kV10 dc10 pm10 an10 cd10 ct10), sl10⟩) (c10 : PySem.W.codeIn K cd10 "_has_empty_round" = true) (k10 : PySem.W.keepIn K (.ref f10) = true)
    (a11 : PySem.W.nsIn K mainGlobals "first_state" = some (some (.ref f11))) (l11 : K.lookup f11 = some ⟨oc11, od11, .func (PySem.W.fnOf "first_state" "first_state" (defArgs s_first_state) (defBody s_first_state) (defScope s_first_state) .none kV11 dc11 pm11 an11 cd11 ct11), sl11⟩) (c11 : PySem.W.codeIn K cd11 "first_state" = true) (k11 : PySem.W.keepIn K (.ref f11) = true)
    (a12 : PySem.W.nsIn K mainGlobals "is_end" = some (some (.ref f12))) (l12 : K.lookup f12 = some ⟨oc12, od12, .func (PySem.W.fnOf "is_end" "is_end" (defArgs s_is_end) (defBody s_is_end) (defScope s_is_end) .none kV12 dc12 pm12 an12 cd12 ct12), sl12⟩) (c12 : PySem.W.codeIn K cd12 "is_end" = true) (k12 : PySem.W.keepIn K (.ref f12) = true)
    (a13 : PySem.W.nsIn K mainGlobals "onward" = some (some (.ref f13))) (l13 : K.lookup f13 = some ⟨oc13, od13, .func (PySem.W.fnOf "onward" "onward" (defArgs s_onward) (defBody s_onward) (defScope s_onward) .none kV13 dc13 pm13 an13 cd13 ct13), sl13⟩) (c13 : PySem.W.codeIn K cd13 "onward" = true) (k13 : PySem.W.keepIn K (.ref f13) = true)
    (a14 : PySem.W.nsIn K mainGlobals "_takes" = some (some (.ref f14))) (l14 : K.lookup f14 = some ⟨oc14, od14, .func (PySem.W.fnOf "_takes" "_takes" (defArgs s__takes) (defBody s__takes) (defScope s__takes) .none kV14 dc14 pm14 an14 cd14 ct14), sl14⟩) (c14 : PySem.W.codeIn K cd14 "_takes" = true) (k14 : PySem.W.keepIn K (.ref f14) = true)
    (a15 : PySem.W.nsIn K mainGlobals "_unfolded" = some (some (.ref f15))) (l15 : K.lookup f15 = some ⟨oc15, od15, .func (PySem.W.fnOf "_unfolded" "_unfolded" (defArgs s__unfolded) (defBody s__unfolded) (defScope s__unfolded) .none kV15 dc15 pm15 an15 cd15 ct15), sl15⟩) (c15 : PySem.W.codeIn K cd15 "_unfolded" = true) (k15 : PySem.W.keepIn K (.ref f15) = true)
    (a16 : PySem.W.nsIn K mainGlobals "walk" = some (some (.ref f16))) (l16 : K.lookup f16 = some ⟨oc16, od16, .func (PySem.W.fnOf "walk" "walk" (defArgs s_walk) (defBody s_walk) (defScope s_walk) .none kV16 dc16 pm16 an16 cd16 ct16), sl16⟩) (c16 : PySem.W.codeIn K cd16 "walk" = true) (k16 : PySem.W.keepIn K (.ref f16) = true)
    (a17 : PySem.W.nsIn K mainGlobals "_followed" = some (some (.ref f17))) (l17 : K.lookup f17 = some ⟨oc17, od17, .func (PySem.W.fnOf "_followed" "_followed" (defArgs s__followed) (defBody s__followed) (defScope s__followed) .none kV17 dc17 pm17 an17 cd17 ct17), sl17⟩) (c17 : PySem.W.codeIn K cd17 "_followed" = true) (k17 : PySem.W.keepIn K (.ref f17) = true)
    (a18 : PySem.W.nsIn K mainGlobals "_is_choice" = some (some (.ref f18))) (l18 : K.lookup f18 = some ⟨oc18, od18, .func (PySem.W.fnOf "_is_choice" "_is_choice" (defArgs s__is_choice) (defBody s__is_choice) (defScope s__is_choice) .none kV18 dc18 pm18 an18 cd18 ct18), sl18⟩) (c18 : PySem.W.codeIn K cd18 "_is_choice" = true) (k18 : PySem.W.keepIn K (.ref f18) = true)
    (a19 : PySem.W.nsIn K mainGlobals "_law_cell_at" = some (some (.ref f19))) (l19 : K.lookup f19 = some ⟨oc19, od19, .func (PySem.W.fnOf "_law_cell_at" "_law_cell_at" (defArgs s__law_cell_at) (defBody s__law_cell_at) (defScope s__law_cell_at) .none kV19 dc19 pm19 an19 cd19 ct19), sl19⟩) (c19 : PySem.W.codeIn K cd19 "_law_cell_at" = true) (k19 : PySem.W.keepIn K (.ref f19) = true)
    (a20 : PySem.W.nsIn K mainGlobals "_law_sign" = some (some (.ref f20))) (l20 : K.lookup f20 = some ⟨oc20, od20, .func (PySem.W.fnOf "_law_sign" "_law_sign" (defArgs s__law_sign) (defBody s__law_sign) (defScope s__law_sign) .none kV20 dc20 pm20 an20 cd20 ct20), sl20⟩) (c20 : PySem.W.codeIn K cd20 "_law_sign" = true) (k20 : PySem.W.keepIn K (.ref f20) = true)
    (a21 : PySem.W.nsIn K mainGlobals "_law_leaf" = some (some (.ref f21))) (l21 : K.lookup f21 = some ⟨oc21, od21, .func (PySem.W.fnOf "_law_leaf" "_law_leaf" (defArgs s__law_leaf) (defBody s__law_leaf) (defScope s__law_leaf) .none kV21 dc21 pm21 an21 cd21 ct21), sl21⟩) (c21 : PySem.W.codeIn K cd21 "_law_leaf" = true) (k21 : PySem.W.keepIn K (.ref f21) = true)
    (a22 : PySem.W.nsIn K mainGlobals "_law_two" = some (some (.ref f22))) (l22 : K.lookup f22 = some ⟨oc22, od22, .func (PySem.W.fnOf "_law_two" "_law_two" (defArgs s__law_two) (defBody s__law_two) (defScope s__law_two) .none kV22 dc22 pm22 an22 cd22 ct22), sl22⟩) (c22 : PySem.W.codeIn K cd22 "_law_two" = true) (k22 : PySem.W.keepIn K (.ref f22) = true)
    (a23 : PySem.W.nsIn K mainGlobals "_law_round" = some (some (.ref f23))) (l23 : K.lookup f23 = some ⟨oc23, od23, .func (PySem.W.fnOf "_law_round" "_law_round" (defArgs s__law_round) (defBody s__law_round) (defScope s__law_round) .none kV23 dc23 pm23 an23 cd23 ct23), sl23⟩) (c23 : PySem.W.codeIn K cd23 "_law_round" = true) (k23 : PySem.W.keepIn K (.ref f23) = true)
    (a24 : PySem.W.nsIn K mainGlobals "_law_made" = some (some (.ref f24))) (l24 : K.lookup f24 = some ⟨oc24, od24, .func (PySem.W.fnOf "_law_made" "_law_made" (defArgs s__law_made) (defBody s__law_made) (defScope s__law_made) .none kV24 dc24 pm24 an24 cd24 ct24), sl24⟩) (c24 : PySem.W.codeIn K cd24 "_law_made" = true) (k24 : PySem.W.keepIn K (.ref f24) = true)
    (a25 : PySem.W.nsIn K mainGlobals "_law_onward" = some (some (.ref f25))) (l25 : K.lookup f25 = some ⟨oc25, od25, .func (PySem.W.fnOf "_law_onward" "_law_onward" (defArgs s__law_onward) (defBody s__law_onward) (defScope s__law_onward) .none kV25 dc25 pm25 an25 cd25 ct25), sl25⟩) (c25 : PySem.W.codeIn K cd25 "_law_onward" = true) (k25 : PySem.W.keepIn K (.ref f25) = true)
    (a26 : PySem.W.nsIn K mainGlobals "_law_walked" = some (some (.ref f26))) (l26 : K.lookup f26 = some ⟨oc26, od26, .func (PySem.W.fnOf "_law_walked" "_law_walked" (defArgs s__law_walked) (defBody s__law_walked) (defScope s__law_walked) .none kV26 dc26 pm26 an26 cd26 ct26), sl26⟩) (c26 : PySem.W.codeIn K cd26 "_law_walked" = true) (k26 : PySem.W.keepIn K (.ref f26) = true)
    (a27 : PySem.W.nsIn K mainGlobals "_law_put_otherwise" = some (some (.ref f27))) (l27 : K.lookup f27 = some ⟨oc27, od27, .func (PySem.W.fnOf "_law_put_otherwise" "_law_put_otherwise" (defArgs s__law_put_otherwise) (defBody s__law_put_otherwise) (defScope s__law_put_otherwise) .none kV27 dc27 pm27 an27 cd27 ct27), sl27⟩) (c27 : PySem.W.codeIn K cd27 "_law_put_otherwise" = true) (k27 : PySem.W.keepIn K (.ref f27) = true)
    (a28 : PySem.W.nsIn K mainGlobals "_law_changed" = some (some (.ref f28))) (l28 : K.lookup f28 = some ⟨oc28, od28, .func (PySem.W.fnOf "_law_changed" "_law_changed" (defArgs s__law_changed) (defBody s__law_changed) (defScope s__law_changed) .none kV28 dc28 pm28 an28 cd28 ct28), sl28⟩) (c28 : PySem.W.codeIn K cd28 "_law_changed" = true) (k28 : PySem.W.keepIn K (.ref f28) = true)
    (a29 : PySem.W.nsIn K mainGlobals "_law_refused" = some (some (.ref f29))) (l29 : K.lookup f29 = some ⟨oc29, od29, .func (PySem.W.fnOf "_law_refused" "_law_refused" (defArgs s__law_refused) (defBody s__law_refused) (defScope s__law_refused) .none kV29 dc29 pm29 an29 cd29 ct29), sl29⟩) (c29 : PySem.W.codeIn K cd29 "_law_refused" = true) (k29 : PySem.W.keepIn K (.ref f29) = true)
    (a30 : PySem.W.nsIn K mainGlobals "law" = some (some (.ref f30))) (l30 : K.lookup f30 = some ⟨oc30, od30, .func (PySem.W.fnOf "law" "law" (defArgs s_law) (defBody s_law) (defScope s_law) .none kV30 dc30 pm30 an30 cd30 ct30), sl30⟩) (c30 : PySem.W.codeIn K cd30 "law" = true) (k30 : PySem.W.keepIn K (.ref f30) = true)
    (z_ValueError : PySem.W.nsIn K mainGlobals "ValueError" = some none)
    (z_all : PySem.W.nsIn K mainGlobals "all" = some none)
    (z_any : PySem.W.nsIn K mainGlobals "any" = some none)
    (z_bool : PySem.W.nsIn K mainGlobals "bool" = some none)
    (z_enumerate : PySem.W.nsIn K mainGlobals "enumerate" = some none)
    (z_int : PySem.W.nsIn K mainGlobals "int" = some none)
    (z_isinstance : PySem.W.nsIn K mainGlobals "isinstance" = some none)
    (z_len : PySem.W.nsIn K mainGlobals "len" = some none)
    (z_list : PySem.W.nsIn K mainGlobals "list" = some none)
    (z_range : PySem.W.nsIn K mainGlobals "range" = some none)
    (z_reversed : PySem.W.nsIn K mainGlobals "reversed" = some none)
    (z_set : PySem.W.nsIn K mainGlobals "set" = some none)
    (z_str : PySem.W.nsIn K mainGlobals "str" = some none)
    (z_tuple : PySem.W.nsIn K mainGlobals "tuple" = some none)
    (z_type : PySem.W.nsIn K mainGlobals "type" = some none)
    (aL : PySem.W.nsIn K mainGlobals "LENGTHS" = some (some (.ref dL)))
    (lL : K.lookup dL = some ⟨.type "dict", none, .dict esL nL, #[]⟩)
    (kL : PySem.W.KeysLit w.params esL.toList)
    (yL : (dL == sysModules) = false)
    (gL0 : PySem.W.nsIn K dL "sign" = some (some (.int 2 tk0)))
    (gL1 : PySem.W.nsIn K dL "any" = some (some (.int 1 tk1)))
    (gL2 : PySem.W.nsIn K dL "none" = some (some (.int 1 tk2)))
    (gL3 : PySem.W.nsIn K dL "row" = some (some (.int 3 tk3)))
    (gL4 : PySem.W.nsIn K dL "or" = some (some (.int 3 tk4)))
    (gL5 : PySem.W.nsIn K dL "more" = some (some (.int 2 tk5)))
    (gL6 : PySem.W.nsIn K dL "less" = some (some (.int 2 tk6)))
    (gL7 : PySem.W.nsIn K dL "group" = some (some (.int 3 tk7)))
    (aMarkError : PySem.W.nsIn K mainGlobals "MarkError" = some (some (.ref cMarkError)))
    (aBadPattern : PySem.W.nsIn K mainGlobals "BadPattern" = some (some (.ref cBadPattern)))
    (aTwiceNumbered : PySem.W.nsIn K mainGlobals "TwiceNumbered" = some (some (.ref cTwiceNumbered)))
    (aEmptyRound : PySem.W.nsIn K mainGlobals "EmptyRound" = some (some (.ref cEmptyRound)))
    (aBadWay : PySem.W.nsIn K mainGlobals "BadWay" = some (some (.ref cBadWay)))
    (bMarkError : PySem.W.subIn K (.ref cMarkError) (.type "BaseException") = some true)
    (tMarkError : PySem.W.typeIn K (.ref cMarkError) = some (.type "type"))
    (dMarkError : PySem.W.hasDictIn K cMarkError = true)
    (selfMarkError : PySem.W.subIn K (.ref cMarkError) (.ref cMarkError) = some true)
    (bBadPattern : PySem.W.subIn K (.ref cBadPattern) (.type "BaseException") = some true)
    (tBadPattern : PySem.W.typeIn K (.ref cBadPattern) = some (.type "type"))
    (dBadPattern : PySem.W.hasDictIn K cBadPattern = true)
    (selfBadPattern : PySem.W.subIn K (.ref cBadPattern) (.ref cBadPattern) = some true)
    (bTwiceNumbered : PySem.W.subIn K (.ref cTwiceNumbered) (.type "BaseException") = some true)
    (tTwiceNumbered : PySem.W.typeIn K (.ref cTwiceNumbered) = some (.type "type"))
    (dTwiceNumbered : PySem.W.hasDictIn K cTwiceNumbered = true)
    (selfTwiceNumbered : PySem.W.subIn K (.ref cTwiceNumbered) (.ref cTwiceNumbered) = some true)
    (bEmptyRound : PySem.W.subIn K (.ref cEmptyRound) (.type "BaseException") = some true)
    (tEmptyRound : PySem.W.typeIn K (.ref cEmptyRound) = some (.type "type"))
    (dEmptyRound : PySem.W.hasDictIn K cEmptyRound = true)
    (selfEmptyRound : PySem.W.subIn K (.ref cEmptyRound) (.ref cEmptyRound) = some true)
    (bBadWay : PySem.W.subIn K (.ref cBadWay) (.type "BaseException") = some true)
    (tBadWay : PySem.W.typeIn K (.ref cBadWay) = some (.type "type"))
    (dBadWay : PySem.W.hasDictIn K cBadWay = true)
    (selfBadWay : PySem.W.subIn K (.ref cBadWay) (.ref cBadWay) = some true)
    (xBadWay : PySem.W.excIn K cBadWay [.type "ValueError", .type "Exception", .type "BaseException", .type "object"] "ValueError.__new__" = true)
    (kBadWay : PySem.W.keepIn K (.ref cBadWay) = true)
    (ecn : PySem.W.specialIn K (.builtin "object.__class__") "__get__" = some (some (.builtin "getset_descriptor.__get__")))
    (ect : PySem.W.takesIn K (.builtin "object.__class__") = some true)
    (hgBadWay : PySem.W.findIn K (.ref cBadWay) "__getattribute__" = some (some (.builtin "BaseException.__getattribute__")))
    (hkBadWay : PySem.W.findIn K (.ref cBadWay) "__getattr__" = some none)
    (haBadWay : PySem.W.findIn K (.ref cBadWay) "__class__" = some (some (.builtin "object.__class__")))
    (hmBadWay : PySem.W.mroIn K cBadWay (.type "object") = some true)
    (kvBadWay : PySem.W.subIn K (.ref cBadWay) (.type "ValueError") = some true)
    (sBadWayMarkError : PySem.W.subIn K (.ref cBadWay) (.ref cMarkError) = some true)
    (sBadWayBadPattern : PySem.W.subIn K (.ref cBadWay) (.ref cBadPattern) = some false)
    (sBadWayTwiceNumbered : PySem.W.subIn K (.ref cBadWay) (.ref cTwiceNumbered) = some false)
    (sBadWayEmptyRound : PySem.W.subIn K (.ref cBadWay) (.ref cEmptyRound) = some false)
    (sBadWayBadWay : PySem.W.subIn K (.ref cBadWay) (.ref cBadWay) = some true) :
    ∃ fd : FuncData, (∀ (s : Shared) (v : Value), BindsTo s fd ⟨[v], []⟩ [("_law_script", v)]) ∧ ∀ base : Heap, K.In base → base.Ns mainGlobals mg → FnOk l.prog w K mg base CX0 7 fa fd ["_law_script"] (spLaw K) := by
  have e := hfa.symm.trans (PySem.W.mg_of X G a30)
  cases e
  have F0 := fun_mk (st := s_parts) l0 c0 k0
  have b0 := F0.binds (ps := ["pattern"]) fun _ _ _ _ _ _ us hl => match us, hl with | [_], _ => rfl
  have F1 := fun_mk (st := s_checked) l1 c1 k1
  have b1 := F1.binds (ps := ["pattern"]) fun _ _ _ _ _ _ us hl => match us, hl with | [_], _ => rfl
  have F2 := fun_mk (st := s__has_form) l2 c2 k2
  have b2 := F2.binds (ps := ["thing"]) fun _ _ _ _ _ _ us hl => match us, hl with | [_], _ => rfl
  have F3 := fun_mk (st := s__is_sign) l3 c3 k3
  have b3 := F3.binds (ps := ["thing"]) fun _ _ _ _ _ _ us hl => match us, hl with | [_], _ => rfl
  have F4 := fun_mk (st := s__is_group_number) l4 c4 k4
  have b4 := F4.binds (ps := ["thing"]) fun _ _ _ _ _ _ us hl => match us, hl with | [_], _ => rfl
  have F5 := fun_mk (st := s__inner) l5 c5 k5
  have b5 := F5.binds (ps := ["part"]) fun _ _ _ _ _ _ us hl => match us, hl with | [_], _ => rfl
  have F6 := fun_mk (st := s__numbers_among) l6 c6 k6
  have b6 := F6.binds (ps := ["found"]) fun _ _ _ _ _ _ us hl => match us, hl with | [_], _ => rfl
  have F7 := fun_mk (st := s__has_twins) l7 c7 k7
  have b7 := F7.binds (ps := ["many"]) fun _ _ _ _ _ _ us hl => match us, hl with | [_], _ => rfl
  have F8 := fun_mk (st := s__takings) l8 c8 k8
  have b8 := F8.binds (ps := ["found"]) fun _ _ _ _ _ _ us hl => match us, hl with | [_], _ => rfl
  have F9 := fun_mk (st := s__may_take_nothing) l9 c9 k9
  have b9 := F9.binds (ps := ["name", "inner_answers"]) fun _ _ _ _ _ _ us hl => match us, hl with | [_, _], _ => rfl
  have F10 := fun_mk (st := s__has_empty_round) l10 c10 k10
  have b10 := F10.binds (ps := ["found"]) fun _ _ _ _ _ _ us hl => match us, hl with | [_], _ => rfl
  have F11 := fun_mk (st := s_first_state) l11 c11 k11
  have b11 := F11.binds (ps := ["pattern"]) fun _ _ _ _ _ _ us hl => match us, hl with | [_], _ => rfl
  have F12 := fun_mk (st := s_is_end) l12 c12 k12
  have b12 := F12.binds (ps := ["state", "text"]) fun _ _ _ _ _ _ us hl => match us, hl with | [_, _], _ => rfl
  have F13 := fun_mk (st := s_onward) l13 c13 k13
  have b13 := F13.binds (ps := ["state", "text"]) fun _ _ _ _ _ _ us hl => match us, hl with | [_, _], _ => rfl
  have F14 := fun_mk (st := s__takes) l14 c14 k14
  have b14 := F14.binds (ps := ["thing", "sign"]) fun _ _ _ _ _ _ us hl => match us, hl with | [_, _], _ => rfl
  have F15 := fun_mk (st := s__unfolded) l15 c15 k15
  have b15 := F15.binds (ps := ["thing"]) fun _ _ _ _ _ _ us hl => match us, hl with | [_], _ => rfl
  have F16 := fun_mk (st := s_walk) l16 c16 k16
  have b16 := F16.binds (ps := ["pattern", "text", "way"]) fun _ _ _ _ _ _ us hl => match us, hl with | [_, _, _], _ => rfl
  have F17 := fun_mk (st := s__followed) l17 c17 k17
  have b17 := F17.binds (ps := ["following", "left"]) fun _ _ _ _ _ _ us hl => match us, hl with | [_, _], _ => rfl
  have F18 := fun_mk (st := s__is_choice) l18 c18 k18
  have b18 := F18.binds (ps := ["thing"]) fun _ _ _ _ _ _ us hl => match us, hl with | [_], _ => rfl
  have F19 := fun_mk (st := s__law_cell_at) l19 c19 k19
  have b19 := F19.binds (ps := ["_law_script", "_law_k"]) fun _ _ _ _ _ _ us hl => match us, hl with | [_, _], _ => rfl
  have F20 := fun_mk (st := s__law_sign) l20 c20 k20
  have b20 := F20.binds (ps := ["_law_cell"]) fun _ _ _ _ _ _ us hl => match us, hl with | [_], _ => rfl
  have F21 := fun_mk (st := s__law_leaf) l21 c21 k21
  have b21 := F21.binds (ps := ["_law_cell", "_law_head"]) fun _ _ _ _ _ _ us hl => match us, hl with | [_, _], _ => rfl
  have F22 := fun_mk (st := s__law_two) l22 c22 k22
  have b22 := F22.binds (ps := ["_law_cell", "_law_left", "_law_right"]) fun _ _ _ _ _ _ us hl => match us, hl with | [_, _, _], _ => rfl
  have F23 := fun_mk (st := s__law_round) l23 c23 k23
  have b23 := F23.binds (ps := ["_law_cell", "_law_part", "_law_head"]) fun _ _ _ _ _ _ us hl => match us, hl with | [_, _, _], _ => rfl
  have F24 := fun_mk (st := s__law_made) l24 c24 k24
  have b24 := F24.binds (ps := ["_law_cells", "_law_head"]) fun _ _ _ _ _ _ us hl => match us, hl with | [_, _], _ => rfl
  have F25 := fun_mk (st := s__law_onward) l25 c25 k25
  have b25 := F25.binds (ps := ["_law_state", "_law_text"]) fun _ _ _ _ _ _ us hl => match us, hl with | [_, _], _ => rfl
  have F26 := fun_mk (st := s__law_walked) l26 c26 k26
  have b26 := F26.binds (ps := ["_law_pattern", "_law_text", "_law_way"]) fun _ _ _ _ _ _ us hl => match us, hl with | [_, _, _], _ => rfl
  have F27 := fun_mk (st := s__law_put_otherwise) l27 c27 k27
  have b27 := F27.binds (ps := ["_law_way", "_law_cell"]) fun _ _ _ _ _ _ us hl => match us, hl with | [_, _], _ => rfl
  have F28 := fun_mk (st := s__law_changed) l28 c28 k28
  have b28 := F28.binds (ps := ["_law_text", "_law_cell", "_law_head"]) fun _ _ _ _ _ _ us hl => match us, hl with | [_, _, _], _ => rfl
  have F29 := fun_mk (st := s__law_refused) l29 c29 k29
  have b29 := F29.binds (ps := ["_law_pattern", "_law_text", "_law_way"]) fun _ _ _ _ _ _ us hl => match us, hl with | [_, _, _], _ => rfl
  have F30 := fun_mk (st := s_law) l30 c30 k30
  have b30 := F30.binds (ps := ["_law_script"]) fun _ _ _ _ _ _ us hl => match us, hl with | [_], _ => rfl
  have T : { T : Txt w K mg // T.f_law = fa ∧ T.fd_law = PySem.W.fnOf "law" "law" (defArgs s_law) (defBody s_law) (defScope s_law) .none kV30 dc30 pm30 an30 cd30 ct30 } := ⟨⟨_, _, F0, PySem.W.mg_of X G a0, b0, _, _, F1, PySem.W.mg_of X G a1, b1, _, _, F2, PySem.W.mg_of X G a2, b2, _, _, F3, PySem.W.mg_of X G a3, b3, _, _, F4, PySem.W.mg_of X G a4, b4, _, _, F5, PySem.W.mg_of X G a5, b5, _, _, F6, PySem.W.mg_of X G a6, b6, _, _, F7, PySem.W.mg_of X G a7, b7, _, _, F8, PySem.W.mg_of X G a8, b8, _, _, F9, PySem.W.mg_of X G a9, b9, _, _, F10, PySem.W.mg_of X G a10, b10, _, _, F11, PySem.W.mg_of X G a11, b11, _, _, F12, PySem.W.mg_of X G a12, b12, _, _, F13, PySem.W.mg_of X G a13, b13, _, _, F14, PySem.W.mg_of X G a14, b14, _, _, F15, PySem.W.mg_of X G a15, b15, _, _, F16, PySem.W.mg_of X G a16, b16, _, _, F17, PySem.W.mg_of X G a17, b17, _, _, F18, PySem.W.mg_of X G a18, b18, _, _, F19, PySem.W.mg_of X G a19, b19, _, _, F20, PySem.W.mg_of X G a20, b20, _, _, F21, PySem.W.mg_of X G a21, b21, _, _, F22, PySem.W.mg_of X G a22, b22, _, _, F23, PySem.W.mg_of X G a23, b23, _, _, F24, PySem.W.mg_of X G a24, b24, _, _, F25, PySem.W.mg_of X G a25, b25, _, _, F26, PySem.W.mg_of X G a26, b26, _, _, F27, PySem.W.mg_of X G a27, b27, _, _, F28, PySem.W.mg_of X G a28, b28, _, _, F29, PySem.W.mg_of X G a29, b29, _, _, F30, PySem.W.mg_of X G a30, b30, PySem.W.mg_none_of X G z_ValueError, PySem.W.mg_none_of X G z_all, PySem.W.mg_none_of X G z_any, PySem.W.mg_none_of X G z_bool, PySem.W.mg_none_of X G z_enumerate, PySem.W.mg_none_of X G z_int, PySem.W.mg_none_of X G z_isinstance, PySem.W.mg_none_of X G z_len, PySem.W.mg_none_of X G z_list, PySem.W.mg_none_of X G z_range, PySem.W.mg_none_of X G z_reversed, PySem.W.mg_none_of X G z_set, PySem.W.mg_none_of X G z_str, PySem.W.mg_none_of X G z_tuple, PySem.W.mg_none_of X G z_type, dL, PySem.W.mg_of X G aL, ⟨esL, nL, lL, kL⟩, yL, ⟨esL, nL, _, lL, kL, gL0, ⟨tk0, rfl⟩⟩, ⟨esL, nL, _, lL, kL, gL1, ⟨tk1, rfl⟩⟩, ⟨esL, nL, _, lL, kL, gL2, ⟨tk2, rfl⟩⟩, ⟨esL, nL, _, lL, kL, gL3, ⟨tk3, rfl⟩⟩, ⟨esL, nL, _, lL, kL, gL4, ⟨tk4, rfl⟩⟩, ⟨esL, nL, _, lL, kL, gL5, ⟨tk5, rfl⟩⟩, ⟨esL, nL, _, lL, kL, gL6, ⟨tk6, rfl⟩⟩, ⟨esL, nL, _, lL, kL, gL7, ⟨tk7, rfl⟩⟩, cMarkError, PySem.W.mg_of X G aMarkError, cBadPattern, PySem.W.mg_of X G aBadPattern, cTwiceNumbered, PySem.W.mg_of X G aTwiceNumbered, cEmptyRound, PySem.W.mg_of X G aEmptyRound, cBadWay, PySem.W.mg_of X G aBadWay, xBadWay, kBadWay, bBadWay, tBadWay, ⟨hgBadWay, hkBadWay, bBadWay, dBadWay, haBadWay, ecn, ect, hmBadWay⟩, kit_ve kvBadWay, PySem.W.exm_ref bMarkError dMarkError tMarkError sBadWayMarkError, kit_ref dMarkError tMarkError sBadWayMarkError selfMarkError, PySem.W.exm_ref bBadPattern dBadPattern tBadPattern sBadWayBadPattern, kit_ref dBadPattern tBadPattern sBadWayBadPattern selfBadPattern, PySem.W.exm_ref bTwiceNumbered dTwiceNumbered tTwiceNumbered sBadWayTwiceNumbered, kit_ref dTwiceNumbered tTwiceNumbered sBadWayTwiceNumbered selfTwiceNumbered, PySem.W.exm_ref bEmptyRound dEmptyRound tEmptyRound sBadWayEmptyRound, kit_ref dEmptyRound tEmptyRound sBadWayEmptyRound selfEmptyRound, PySem.W.exm_ref bBadWay dBadWay tBadWay sBadWayBadWay, kit_ref dBadWay tBadWay sBadWayBadWay selfBadWay⟩, rfl, rfl⟩
  obtain ⟨T, rfl, e2⟩ := T
  refine ⟨T.fd_law, fun s v => ?_, fun base _ _ => ok_law T⟩
  rw [e2]
  exact .of_eq rfl
theorem walk {l : PySem.W.OpenLaw} {q : Program} {loose : List Str} {XP : (Str → Option Value) → Heap → Prop} {YP : World → Heap → Prop} {d : DefRec} {K : Params → PySem.W.Frag} (hn : l.most = some 63) (hdf : d.params.defaults = [])
    (hY : ∀ (w : World) (h : Heap), YP w h → (K w.params).In h)
    (F : ∀ (w : World) (mg : Str → Option Value) (fa : Addr) (h : Heap), (K w.params).In h → h.Ns mainGlobals mg → mg d.name = some (.ref fa) →
      ∃ fd : FuncData, (∀ (s : Shared) (u : Value), BindsTo s fd ⟨[u], []⟩ [("_law_script", u)]) ∧ ∀ base : Heap, (K w.params).In base → base.Ns mainGlobals mg → FnOk l.prog w (K w.params) mg base CX0 7 fa fd ["_law_script"] (spLaw (K w.params))) :
    PySem.W.WalkO q loose XP YP l.row.toRowW d [] (fun f vs => PySem.call f vs) :=
  L2.walk_of (n := 63) (k := 7) (x := "_law_script") (CX := fun _ => CX0) (sp := fun w => (spLaw (K w.params))) hn (by decide) hdf ⟨rfl, by decide, by decide⟩ hY F (fun _ _ a ns hl _ hS => ⟨a, ns, rfl, hS, hl, fun _ => rfl⟩) fun _ _ _ _ _ z => z
end G1

open PySem PySem.W PyProof.Rows
set_option maxRecDepth 100000 in
set_option maxHeartbeats 0 in
theorem PySem.Challenge.cw_groupmarks_k05_ways_walked_holds : PySem.Challenge.rw_groupmarks_k05_ways_walked.Holds := by
  w_on; o_law; k_head; (case hw => w_witness2)
  k_fill
  refine G1.walk (l := PySem.Challenge.rw_groupmarks_k05_ways_walked) rfl rfl (fun w h Y => PySem.W.kIn_of Y) ?F
  case F =>
    intro w mg fa h KX G hmg
    refine' G1.all_mk KX G hmg ?a0 ?l0 ?c0 ?k0 ?a1 ?l1 ?c1 ?k1 ?a2 ?l2 ?c2 ?k2 ?a3 ?l3 ?c3 ?k3 ?a4 ?l4 ?c4 ?k4 ?a5 ?l5 ?c5 ?k5 ?a6 ?l6 ?c6 ?k6 ?a7 ?l7 ?c7 ?k7 ?a8 ?l8 ?c8 ?k8 ?a9 ?l9 ?c9 ?k9 ?a10 ?l10 ?c10 ?k10 ?a11 ?l11 ?c11 ?k11 ?a12 ?l12 ?c12 ?k12 ?a13 ?l13 ?c13 ?k13 ?a14 ?l14 ?c14 ?k14 ?a15 ?l15 ?c15 ?k15 ?a16 ?l16 ?c16 ?k16 ?a17 ?l17 ?c17 ?k17 ?a18 ?l18 ?c18 ?k18 ?a19 ?l19 ?c19 ?k19 ?a20 ?l20 ?c20 ?k20 ?a21 ?l21 ?c21 ?k21 ?a22 ?l22 ?c22 ?k22 ?a23 ?l23 ?c23 ?k23 ?a24 ?l24 ?c24 ?k24 ?a25 ?l25 ?c25 ?k25 ?a26 ?l26 ?c26 ?k26 ?a27 ?l27 ?c27 ?k27 ?a28 ?l28 ?c28 ?k28 ?a29 ?l29 ?c29 ?k29 ?a30 ?l30 ?c30 ?k30 ?z_ValueError ?z_all ?z_any ?z_bool ?z_enumerate ?z_int ?z_isinstance ?z_len ?z_list ?z_range ?z_reversed ?z_set ?z_str ?z_tuple ?z_type ?aL ?lL ?kL ?yL ?gL0 ?gL1 ?gL2 ?gL3 ?gL4 ?gL5 ?gL6 ?gL7 ?aMarkError ?aBadPattern ?aTwiceNumbered ?aEmptyRound ?aBadWay ?bMarkError ?tMarkError ?dMarkError ?selfMarkError ?bBadPattern ?tBadPattern ?dBadPattern ?selfBadPattern ?bTwiceNumbered ?tTwiceNumbered ?dTwiceNumbered ?selfTwiceNumbered ?bEmptyRound ?tEmptyRound ?dEmptyRound ?selfEmptyRound ?bBadWay ?tBadWay ?dBadWay ?selfBadWay ?xBadWay ?kBadWay ?ecn ?ect ?hgBadWay ?hkBadWay ?haBadWay ?hmBadWay ?kvBadWay ?sBadWayMarkError ?sBadWayBadPattern ?sBadWayTwiceNumbered ?sBadWayEmptyRound ?sBadWayBadWay
    (case a0 => k_is)
    (case l0 => k_is)
    (case c0 => k_is)
    (case k0 => k_is)
    (case a1 => k_is)
    (case l1 => k_is)
    (case c1 => k_is)
    (case k1 => k_is)
    (case a2 => k_is)
    (case l2 => k_is)
    (case c2 => k_is)
    (case k2 => k_is)
    (case a3 => k_is)
    (case l3 => k_is)
    (case c3 => k_is)
    (case k3 => k_is)
    (case a4 => k_is)
    (case l4 => k_is)
    (case c4 => k_is)
    (case k4 => k_is)
    (case a5 => k_is)
    (case l5 => k_is)
    (case c5 => k_is)
    (case k5 => k_is)
    (case a6 => k_is)
    (case l6 => k_is)
    (case c6 => k_is)
    (case k6 => k_is)
    (case a7 => k_is)
    (case l7 => k_is)
    (case c7 => k_is)
    (case k7 => k_is)
    (case a8 => k_is)
    (case l8 => k_is)
    (case c8 => k_is)
    (case k8 => k_is)
    (case a9 => k_is)
    (case l9 => k_is)
    (case c9 => k_is)
    (case k9 => k_is)
    (case a10 => k_is)
    (case l10 => k_is)
    (case c10 => k_is)
    (case k10 => k_is)
    (case a11 => k_is)
    (case l11 => k_is)
    (case c11 => k_is)
    (case k11 => k_is)
    (case a12 => k_is)
    (case l12 => k_is)
    (case c12 => k_is)
    (case k12 => k_is)
    (case a13 => k_is)
    (case l13 => k_is)
    (case c13 => k_is)
    (case k13 => k_is)
    (case a14 => k_is)
    (case l14 => k_is)
    (case c14 => k_is)
    (case k14 => k_is)
    (case a15 => k_is)
    (case l15 => k_is)
    (case c15 => k_is)
    (case k15 => k_is)
    (case a16 => k_is)
    (case l16 => k_is)
    (case c16 => k_is)
    (case k16 => k_is)
    (case a17 => k_is)
    (case l17 => k_is)
    (case c17 => k_is)
    (case k17 => k_is)
    (case a18 => k_is)
    (case l18 => k_is)
    (case c18 => k_is)
    (case k18 => k_is)
    (case a19 => k_is)
    (case l19 => k_is)
    (case c19 => k_is)
    (case k19 => k_is)
    (case a20 => k_is)
    (case l20 => k_is)
    (case c20 => k_is)
    (case k20 => k_is)
    (case a21 => k_is)
    (case l21 => k_is)
    (case c21 => k_is)
    (case k21 => k_is)
    (case a22 => k_is)
    (case l22 => k_is)
    (case c22 => k_is)
    (case k22 => k_is)
    (case a23 => k_is)
    (case l23 => k_is)
    (case c23 => k_is)
    (case k23 => k_is)
    (case a24 => k_is)
    (case l24 => k_is)
    (case c24 => k_is)
    (case k24 => k_is)
    (case a25 => k_is)
    (case l25 => k_is)
    (case c25 => k_is)
    (case k25 => k_is)
    (case a26 => k_is)
    (case l26 => k_is)
    (case c26 => k_is)
    (case k26 => k_is)
    (case a27 => k_is)
    (case l27 => k_is)
    (case c27 => k_is)
    (case k27 => k_is)
    (case a28 => k_is)
    (case l28 => k_is)
    (case c28 => k_is)
    (case k28 => k_is)
    (case a29 => k_is)
    (case l29 => k_is)
    (case c29 => k_is)
    (case k29 => k_is)
    (case a30 => k_is)
    (case l30 => k_is)
    (case c30 => k_is)
    (case k30 => k_is)
    (case z_ValueError => k_is)
    (case z_all => k_is)
    (case z_any => k_is)
    (case z_bool => k_is)
    (case z_enumerate => k_is)
    (case z_int => k_is)
    (case z_isinstance => k_is)
    (case z_len => k_is)
    (case z_list => k_is)
    (case z_range => k_is)
    (case z_reversed => k_is)
    (case z_set => k_is)
    (case z_str => k_is)
    (case z_tuple => k_is)
    (case z_type => k_is)
    (case aL => k_is)
    (case lL => k_is)
    (case kL => first | k_is | exact ⟨⟨_, _, rfl, rfl⟩, ⟨_, _, rfl, rfl⟩, ⟨_, _, rfl, rfl⟩, ⟨_, _, rfl, rfl⟩, ⟨_, _, rfl, rfl⟩, ⟨_, _, rfl, rfl⟩, ⟨_, _, rfl, rfl⟩, ⟨_, _, rfl, rfl⟩, trivial⟩)
    (case yL => first | rfl | decide | k_is)
    (case gL0 => k_is)
    (case gL1 => k_is)
    (case gL2 => k_is)
    (case gL3 => k_is)
    (case gL4 => k_is)
    (case gL5 => k_is)
    (case gL6 => k_is)
    (case gL7 => k_is)
    (case aMarkError => k_is)
    (case aBadPattern => k_is)
    (case aTwiceNumbered => k_is)
    (case aEmptyRound => k_is)
    (case aBadWay => k_is)
    (case bMarkError => k_is)
    (case tMarkError => k_is)
    (case dMarkError => k_is)
    (case selfMarkError => k_is)
    (case bBadPattern => k_is)
    (case tBadPattern => k_is)
    (case dBadPattern => k_is)
    (case selfBadPattern => k_is)
    (case bTwiceNumbered => k_is)
    (case tTwiceNumbered => k_is)
    (case dTwiceNumbered => k_is)
    (case selfTwiceNumbered => k_is)
    (case bEmptyRound => k_is)
    (case tEmptyRound => k_is)
    (case dEmptyRound => k_is)
    (case selfEmptyRound => k_is)
    (case bBadWay => k_is)
    (case tBadWay => k_is)
    (case dBadWay => k_is)
    (case selfBadWay => k_is)
    (case xBadWay => k_exc)
    (case kBadWay => k_is)
    (case ecn => k_is)
    (case ect => k_is)
    (case hgBadWay => k_is)
    (case hkBadWay => k_is)
    (case haBadWay => k_is)
    (case hmBadWay => k_is)
    (case kvBadWay => k_is)
    (case sBadWayMarkError => k_is)
    (case sBadWayBadPattern => k_is)
    (case sBadWayTwiceNumbered => k_is)
    (case sBadWayEmptyRound => k_is)
    (case sBadWayBadWay => k_is)
