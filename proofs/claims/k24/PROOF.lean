import PyProof.Rows.All
import Wide.All
import OpenK.AllK
import Wide.FinOn
import HandS.ForMost
import HandS.More
import HandS.OwnEq
import HandS.IsInst
import HandS.WordsExc
import HandS.Defaults
import HandS.SortKw
import KE.SortData
import KE.SortKeyHeap
import HandS.StrMore
import HandS.Walk
import HandS.Style
import KE.KDictPairs
import HandS.HeadHook1
import HandS.HeadHook2
import HandS.HeadHook3
import HandS.HeadHook4
import Wide.Once
import KE.KStateDown
import Lean
import HandS.Head0
import HandS.Head1
import HandS.Head2
import HandS.Head3
import HandS.HeadEnd
import KE.DataEq
import HandS.DictComp
import HandS.ForExc
import KE.DataCmp
import KE.DataMinKey
import HandS.Gcd
import HandS.TupAny
import KE.KRevSl
import HandS.AnyAll
import HandS.Set
import HandS.SetFor
import HandS.Strs
import HandS.TryOnly
import PySem.Challenge.RW_frontparts_k24_whole_level_ways
set_option Elab.async false
set_option linter.all false
set_option maxRecDepth 100000
set_option maxHeartbeats 2000000
/-! == and != of an instance by an own __eq__, whatever stands at the right -/
namespace Fp
open PySem PySem.Spec PyProof.Rows PySem.SeqAt
section
variable {M : Model} {prog : Program} {w : World} {A : Around} {E : Value → Shared → Prop} {s : Shared} {K : PySem.W.Frag} {x C f : Addr} {ox : Obj} {od : Option Obj} {b tb : Value}
theorem ifBound_objNe {args : List Value} {Q : Option Value → Shared → Prop} (X : K.In s.heap) (I : PySem.W.InstAt s.heap x ox C od) (hs : PySem.W.findIn K (.ref C) "__ne__" = some (some (.builtin "object.__ne__")))
    (h : wpAny M A (call (.builtin "object.__ne__") (.ref x :: args)) (fun v => Q (some v)) E s) : wpAny M A (callSpecialIfBound? (.ref x) "__ne__" args) Q E s := by
  simp only [callSpecialIfBound?, bindSpecialIfBound?]
  refine wpAny_holding (wpAny_bind (wpAny_bind (wpAny_bind (I.type.here ((PySem.W.looks_findIn X hs).here ?_)))))
  refine wpAny_bind (wpAny_askSetting (wpAny_ite ?_))
  have fin : wpAny M A (call (.builtin "object.__ne__") ([.ref x] ++ args) >>= fun v => pure (some v)) Q E s := wpAny_bind (wpAny_mono h (fun v s' h' => wpAny_pure h') fun _ _ h' => h')
  split
  · exact wpAny_bind (wpAny_of_eq (F.cmp_object.ne.bind _) (wpAny_pure (by exact fin)))
  · exact wpAny_tryCatch (wpAny_bind (wpAny_of_eq (F.cmp_object.ne.bind _) (wpAny_pure (by exact fin))))
theorem entry_ne {Q : Fin → Shared → Prop} (hu : A.units < cLine) (X : K.In s.heap) (I : PySem.W.InstAt s.heap x ox C od) (hs : PySem.W.findIn K (.ref C) "__eq__" = some (some (.ref f))) (hf : PySem.W.isFn K (.ref f) = true)
    (hcall : wpAny (model prog w) A (call (.ref f) [.ref x, b]) (fun v s' => ∃ r, v = .bool r ∧ Q (.done (.ret (.bool (!r)))) s') E s) :
    wpAny (model prog w) A (Builtin.«object.__ne__» ⟨[.ref x, b], []⟩) Q E s := by
  unfold Builtin.«object.__ne__»
  repeat (first
    | with_reducible refine wpAny_cRoomFor hu ?_
    | (refine wpAny_bind (m := callSpecialIfBound? (.ref x) (Str.ofString "__eq__") [b])
        (PySem.W.ifBound_K X I hs hf (wpAny_mono hcall (fun r s' hr => by
          obtain ⟨b, rfl, hq⟩ := hr
          repeat (first | exact hq | exact wpAny_pure hq | exact wpAny_truthy_bool hq | (refine wpAny_bind (m := truthy (.bool _)) (wpAny_truthy_bool ?_)) | wp_step)) fun _ _ e => e)))
    | wp_step)
theorem cmpNe_K {Q : Value → Shared → Prop} (hu : A.units + 1 < cLine) (X : K.In s.heap) (I : PySem.W.InstAt s.heap x ox C od) (hb : PySem.W.Looks (model prog w) s.heap (typeOf b) tb) (hn : PySem.W.notFirst K C tb = true)
    (hne : PySem.W.findIn K (.ref C) "__ne__" = some (some (.builtin "object.__ne__"))) (hs : PySem.W.findIn K (.ref C) "__eq__" = some (some (.ref f))) (hf : PySem.W.isFn K (.ref f) = true) (hm : PySem.W.mroIn K C (.type "object") = some true)
    (h : wpAny (model prog w) A.in1 (call (.ref f) [.ref x, b]) (fun v s' => ∃ r, v = .bool r ∧ Q (.bool (!r)) s') E s) : wpAny (model prog w) A (richCompare .NotEq (.ref x) b) Q E s := by
  have one : wpAny (model prog w) A (tryCompare (.ref x) "__ne__" b) (fun r s' => ∃ v, r = some v ∧ Q v s') E s := by
    unfold tryCompare
    refine wpAny_bind (ifBound_objNe X I hne ?_)
    refine wpAny_call (codeAny_call_builtin F.cmp_object.ne.plain F.cmpEntry_ne (PySem.W.check_slot F.cmpKind_ne F.cmpSplit_ne (I.type.andThen (PySem.W.looks_mroIn X hm)) (F.cmpArgs_ne _ _)
      (entry_ne (A := A.in1) (show A.in1.units < cLine from hu) X I hs hf (wpAny_mono h (fun v s' hv => ?_) fun _ _ e => e))))
    obtain ⟨r, rfl, hq⟩ := hv
    exact ⟨r, rfl, wpAny_pure ⟨_, rfl, hq⟩⟩
  unfold richCompare
  simp only [oneThing_ref]
  refine wpAny_holding (wpAny_bind (wpAny_cRoomFor (Nat.lt_of_succ_lt hu) ?_))
  rw [show cmpInfo .NotEq = (("!=", "__ne__", "__ne__") : String × Str × Str) from rfl]
  dsimp only
  refine wpAny_bind (I.type.here (wpAny_bind (hb.here ?_)))
  split
  · rename_i q
    have e : PySem.W.subIn K tb (.ref C) = some false := by
      rcases Bool.or_eq_true_iff.mp hn with e | e
      · rw [beq_iff_eq.mp e] at q; simp at q
      · exact beq_iff_eq.mp e
    refine wpAny_bind ((PySem.W.looks_subIn X e).here ?_)
    simp only [Bool.false_eq_true, if_false]
    refine wpAny_bind (wpAny_mono one (fun r s' z => ?_) fun _ _ e => e)
    obtain ⟨v, rfl, hq⟩ := z
    exact wpAny_pure hq
  · refine wpAny_bind (wpAny_pure ?_)
    simp only [Bool.false_eq_true, if_false]
    refine wpAny_bind (wpAny_mono one (fun r s' z => ?_) fun _ _ e => e)
    obtain ⟨v, rfl, hq⟩ := z
    exact wpAny_pure hq
end
end Fp
namespace L2
open PySem PySem.Spec PyProof.Rows
def rOwnEq (K : PySem.W.Frag) (C : Addr) (sp : Sp) : R2 := fun x y H Q => ∃ a dx fs t, x = .ref a ∧ H a = some (.ins C dx fs) ∧ TyX K H y t ∧ PySem.W.notFirst K C t = true ∧ sp [x, y] H (fun v H' => ∃ r, v = .bl r ∧ Q (.bl r) H') (fun _ _ _ => False)
def rOwnNe (K : PySem.W.Frag) (C : Addr) (sp : Sp) : R2 := fun x y H Q => ∃ a dx fs t, x = .ref a ∧ H a = some (.ins C dx fs) ∧ TyX K H y t ∧ PySem.W.notFirst K C t = true ∧ sp [x, y] H (fun v H' => ∃ r, v = .bl r ∧ Q (.bl (!r)) H') (fun _ _ _ => False)
section
variable {X : Cx} {C f : Addr} {fd : FuncData} {ps : List Str} {sp : Sp} {n : Nat}
theorem op_ownEq (F : FnOk X.prog X.w X.K X.mg X.base CX0 n f fd ps sp) (hs : PySem.W.findIn X.K (.ref C) "__eq__" = some (some (.ref f))) (hf : PySem.W.isFn X.K (.ref f) = true) (hb : Binds X.K fd ps []) (hr : Room n X.A) :
    OpR X (compareOp .Eq) (rOwnEq X.K C sp) := by
  intro pins s σ H x y v u Q I rx ry hq
  obtain ⟨a, dx, fs, t, rfl, ha, ty, hn, hsp⟩ := hq
  cases rx
  obtain ⟨mA, J, _⟩ := ins_get I.hok ha
  obtain ⟨od, J, _⟩ := J.look
  obtain ⟨P, Z, p, _⟩ := kit_of I ry ty
  obtain ⟨m, hF⟩ := I.fr
  show wpAny (model X.prog X.w) X.A (richCompare .Eq _ u) (EP X pins σ Q) X.xe s
  refine PySem.W.cmp_K (op := .Eq) (tb := t) hr.units0 hF I.ok.mod.kin J (Z.ty _ _ I.kIn p) hn hs hf ?_
  have hl := F.len _ _ _ _ hsp
  have r2 : Vals [V.ref a, y] [Value.ref a, u] := .cons rfl (.cons ry .nil)
  refine wpAny_call (codeAny_mono (F.run X.A X.stack s H ⟨[.ref a, u], []⟩ [.ref a, u] [.ref a, y] _ (fun _ _ _ => False) hr I.env0 (by
    have := hb s [.ref a, u] I.kIn (by simpa using hl)
    simpa using this) r2 hsp) fun r s' hq => ?_)
  cases r with
  | error e => exact pass0 pins σ H s e s' I hq
  | ok fl =>
    cases fl with
    | ret w =>
      obtain ⟨z, H', I', rz, r, ez, q⟩ := I.after hq
      subst ez
      cases rz
      exact ⟨.bl r, H', I', rfl, q⟩
    | next => exact False.elim hq
    | brk => exact False.elim hq
    | cont => exact False.elim hq
theorem op_ownNe (F : FnOk X.prog X.w X.K X.mg X.base CX0 n f fd ps sp) (hne : PySem.W.findIn X.K (.ref C) "__ne__" = some (some (.builtin "object.__ne__"))) (hs : PySem.W.findIn X.K (.ref C) "__eq__" = some (some (.ref f))) (hf : PySem.W.isFn X.K (.ref f) = true)
    (hm : PySem.W.mroIn X.K C (.type "object") = some true) (hb : Binds X.K fd ps []) (hr : Room (n + 1) X.A) :
    OpR X (compareOp .NotEq) (rOwnNe X.K C sp) := by
  intro pins s σ H x y v u Q I rx ry hq
  obtain ⟨a, dx, fs, t, rfl, ha, ty, hn, hsp⟩ := hq
  cases rx
  obtain ⟨mA, J, _⟩ := ins_get I.hok ha
  obtain ⟨od, J, _⟩ := J.look
  obtain ⟨P, Z, p, _⟩ := kit_of I ry ty
  show wpAny (model X.prog X.w) X.A (richCompare .NotEq _ u) (EP X pins σ Q) X.xe s
  have hu : X.A.units + 1 < cLine := hr.in1.units0
  refine Fp.cmpNe_K (tb := t) hu I.kIn J (Z.ty _ _ I.kIn p) hn hne hs hf hm ?_
  have hl := F.len _ _ _ _ hsp
  have r2 : Vals [V.ref a, y] [Value.ref a, u] := .cons rfl (.cons ry .nil)
  refine wpAny_call (codeAny_mono (F.run X.A.in1 X.stack s H ⟨[.ref a, u], []⟩ [.ref a, u] [.ref a, y] _ (fun _ _ _ => False) hr.in1 I.env0.in1 (by
    have := hb s [.ref a, u] I.kIn (by simpa using hl)
    simpa using this) r2 hsp) fun r s' hq => ?_)
  cases r with
  | error e => exact pass0 pins σ H s e s' I hq
  | ok fl =>
    cases fl with
    | ret w =>
      obtain ⟨z, H', I', rz, r, ez, q⟩ := I.after hq
      subst ez
      cases rz
      exact ⟨r, rfl, .bl (!r), H', I', rfl, q⟩
    | next => exact False.elim hq
    | brk => exact False.elim hq
    | cont => exact False.elim hq
end
end L2

set_option Elab.async false
set_option linter.all false
set_option maxRecDepth 100000
set_option maxHeartbeats 2000000
/-! sorted(d, key=rank_of) of a dict of texts; sorted of tuples of an int and a text -/
namespace Fp
open PySem PySem.W PySem.Spec PyProof.Rows
/-- a word's rank -/
def rk (w : Str) : PyData := .tuple [.int (-(w.length : Int)), .str w]
def leR : Str → Str → Bool := dataLe false rk
def rkA (p : Pos) : Arguments := { posonlyargs := [], args := [{ arg := "word", annotation := none, pos := p }], vararg := none, kwonlyargs := [], kw_defaults := [], kwarg := none, defaults := [] }
def rkB (p1 p2 p3 p4 p5 p6 p7 : Pos) : List Stmt := [.Return (some (.Tuple [.UnaryOp .USub (.Call (.Name "len" p1) [.Name "word" p2] [] p3) p4, .Name "word" p5] 0 p6)) p7]
def rkS : Scope := { kind := .function, names := [(PySem.Str.ofString "word", .local), (PySem.Str.ofString "len", .globalImplicit)], isGenerator := false, isCoroutine := false, more := [] }
theorem ldC {M : Model} {s : Shared} {name : Str} {scope : Scope} {L a : Addr} {cd : Value} {m : Str → Option Value} {x : Str} {pos : Pos} {v : Value} {Q : Value → Shared → Prop} {A : Around} {E : Value → Shared → Prop} (hn : s.heap.Ns L m) (hv : m x = some v) (h : Q v s)
    (hk : scope.kind = .function := by rfl) (hl : (envOfC name scope L a cd).kindOf x = some .local := by rfl) (hd : (x == ("__debug__" : Str)) = false := by decide) :
    wpAny M A (eval (.Name x pos) (envOfC name scope L a cd)) Q E s := wpAny_Name (wpAny_loadName_local hk hl hn hv h) hd
section
variable {prog : Program} {w : World} {A : Around} {E : Value → Shared → Prop} {s : Shared} {K : Frag} {mg : Str → Option Value} {base : Heap} {fR : Addr} {fd : FuncData} {p0 p1 p2 p3 p4 p5 p6 p7 : Pos}
theorem rank_call (F : L2.FunD K "rank_of" "rank_of" (rkA p0) (rkB p1 p2 p3 p4 p5 p6 p7) rkS [] [] fR fd) (Mo : L2.Mod K mg base) (kb : ∀ b o, base.get? b = some o → s.heap.get? b = some o) (hlen : mg "len" = none) (hroom : A.depth + 1 < recursionLimit)
    {w0 : Str} {t : Tok} (hw : w0.length ≤ sizeLine) : wpAny (model prog w) A (call (.ref fR) [.str w0 t]) (KeyPure (rk w0) s) E s := by
  obtain ⟨oc, od, dV, kV, doc, pm, an, cdv, ct, osl, rfl, lk, hcd, hD, _⟩ := F.ex
  obtain rfl : dV = .none := by
    rcases hD with ⟨_, e⟩ | ⟨e, _⟩
    · exact e
    · exact absurd rfl e
  have X : K.In s.heap := Mo.kin.keeps kb
  refine wpAny_call (Att.call_fn (binds := [("word", .str w0 t)]) X (Mo.nolimit.keeps kb) lk hcd (Nat.lt_of_succ_lt hroom) (BindsTo.of_eq (by first | rfl | with_unfolding_all rfl)) (by first | rfl | decide | with_unfolding_all rfl) (fun s₁ IC => ?_) rfl rfl rfl)
  obtain ⟨h₁, tk₁, rfl⟩ := IC.toInCall.same
  have k : ∀ b o, s.heap.get? b = some o → h₁.get? b = some o := IC.toInCall.keep
  have hn := IC.toInCall.ns
  obtain ⟨mb, b1, b2⟩ := Mo.blt
  show wpAny _ _ (execs _ _) _ _ _
  refine wpAny_execs_cons (wpAny_Return_some (wpAny_Tuple_spliced ?_))
  show wpAny _ _ (spliced ((false, eval _ _) :: backTo p6 (starEach [_] _))) _ _ _
  refine Calls.spliced_cons (wpAny_UnaryOp ?_)
  refine wpAny_Call_Name_kw (Calls.Name_function_global rfl rfl (Calls.loadGlobal_builtin (Mo.glob.keeps fun b o e => k b o (kb b o e)) hlen (b1.keeps fun b o e => k b o (kb b o e)) ((b2 "len" (by decide)).trans boot_len) ?_) (by decide))
  refine callWith_builtin1 (spliced_more (ldC (v := .str w0 t) hn (by first | rfl | with_unfolding_all rfl | kernel_rfl) (spliced_none ?_))) rfl rfl
  have hs : sizeLine = 16777216 := sizeLine_eq
  have hl63 := L2.line63
  refine len_str (by omega) (neg_int ?_)
  show wpAny _ _ (spliced ((false, eval _ _) :: backTo p6 (starEach [] _))) _ _ _
  refine Calls.spliced_cons (ldC (v := .str w0 t) hn (by first | rfl | with_unfolding_all rfl | kernel_rfl) (Calls.spliced_nil ?_))
  refine ⟨by show 2 ≤ sizeLine; rw [sizeLine_eq]; decide, ?_⟩
  refine ⟨_, _, rfl, fun b o e => Heap.get?_push_of_some _ (k b o e), ?_⟩
  exact Reads.tuple (Heap.get?_push_size _ rfl) rfl rfl (by
    first
    | exact ReadsAll.cons (Reads.int _ _) (ReadsAll.cons (Reads.str _ _) ReadsAll.nil)
    | (have := ReadsAll.cons (h := Heap.push h₁ _) (Reads.int (-(w0.length : Int)) _) (ReadsAll.cons (Reads.str w0 t) ReadsAll.nil); simpa using this))
end
theorem alike_rk (a b : Str) : alike (rk a) (rk b) = true := by simp [rk, alike, alikeAll]
theorem rk_all (ws : List Str) : AllAlike (ws.map rk) := AllAlike.of alike_rk
theorem rk_sortable (ws : List Str) : Sortable (ws.map rk) := Sortable.tuples fun _ => ⟨_, _, rfl⟩
theorem rk_depth (w : Str) : (rk w).depth ≤ 2 := by simp [rk, PyData.depth, PyData.depthAll]
theorem vals_strs : ∀ {us : List Value} {ws : List Str}, EachIs (fun v w => ∃ t, v = Value.str w t) us ws → L2.Vals (ws.map L2.V.str) us
  | _, _, .nil => .nil
  | _, _, .cons h t => .cons h (vals_strs t)
theorem strs_each : ∀ {us : List Value} {ks : List Str}, us.length = ks.length → (∀ (j : Nat) (v : Value), us[j]? = some v → ∃ (x : Str) (t : Tok), ks[j]? = some x ∧ v = Value.str x t) → EachIs (fun v w => ∃ t, v = Value.str w t) us ks
  | [], [], _, _ => .nil
  | u :: us, k :: ks, hl, h => by
    obtain ⟨x, t, e1, e2⟩ := h 0 u rfl
    have e1' : k = x := Option.some.inj e1
    subst e1'
    refine .cons ⟨t, e2⟩ (strs_each (by simpa using hl) fun j v e => ?_)
    obtain ⟨x, t, a, b⟩ := h (j + 1) v (by simpa using e)
    exact ⟨x, t, by simpa using a, b⟩
  | [], _ :: _, hl, _ => by simp at hl
  | _ :: _, [], hl, _ => by simp at hl
/-- a pair of an int and a text, at an address -/
abbrev IS : Type := Addr × Int × Str
def enIS (p : IS) : PyData := .tuple [.int p.2.1, .str p.2.2]
def leIS : IS → IS → Bool := dataLe false enIS
theorem is_all (ws : List IS) : AllAlike (ws.map enIS) := AllAlike.of fun a b => by simp [enIS, alike, alikeAll]
theorem is_sortable (ws : List IS) : Sortable (ws.map enIS) := Sortable.tuples fun _ => ⟨_, _, rfl⟩
theorem is_depth (w : IS) : (enIS w).depth ≤ 2 := by simp [enIS, PyData.depth, PyData.depthAll]
theorem refs_each : ∀ {ps : List IS} {us : List Value}, L2.Vals (ps.map fun p => L2.V.ref p.1) us → EachIs (fun v p => v = Value.ref p.1) us ps
  | [], _, h => by cases h; exact .nil
  | p :: ps, _, h => by
    cases h with
    | cons r t => exact .cons r (refs_each t)
theorem each_refs : ∀ {us : List Value} {ps : List IS}, EachIs (fun v p => v = Value.ref p.1) us ps → L2.Vals (ps.map fun p => L2.V.ref p.1) us
  | _, _, .nil => .nil
  | _, _, .cons h t => .cons h (each_refs t)
end Fp
namespace L2
open PySem PySem.Spec PyProof.Rows
def rSortRk (fR : Addr) : List V → List V → Hp → VK → Prop := fun vs zs H Q => ∃ (a : Addr) (kvs : List (Key × V)) (ws : List Str), vs = [.ref a] ∧ zs = [.ref fR] ∧ Rd H a (.dK kvs) ∧ kvs.map (·.1) = ws.map Sum.inr ∧ (∀ w ∈ ws, w.length ≤ sizeLine) ∧
  ∀ p, H p = none → Q (.ref p) (upd H p (.lst ((ws.mergeSort Fp.leR).map V.str)))
section
variable {X : Cx} {fR : Addr} {fd : FuncData} {p0 p1 p2 p3 p4 p5 p6 p7 : Pos}
/-- sorted(d, key=rank_of) -/
theorem cr_sortRk (hcalm : X.calm = true) (F : FunD X.K "rank_of" "rank_of" (Fp.rkA p0) (Fp.rkB p1 p2 p3 p4 p5 p6 p7) Fp.rkS [] [] fR fd) (hlen : X.mg "len" = none) (hr : Room 1 X.A) : CallRK X (.builtin "sorted") [Str.ofString "key"] (rSortRk fR) := by
  intro pins s σ H vs zs us ws Q I r rz h
  obtain ⟨a, kvs, ks, rfl, rfl, hd, hks, hwl, q⟩ := h
  obtain rfl := Vals.ref1 r
  obtain ⟨w1, rfl, e1⟩ := vals1 rz
  obtain rfl : w1 = Value.ref fR := e1
  obtain ⟨z, lo, vs, rel, dd⟩ := dk_rd I.hok hd
  obtain ⟨ep, hat⟩ := dd.dictAt
  have hkeys : vs.map (·.1) = ks.map Sum.inr := rel.keys.symm.trans hks
  have hl : vs.length = ks.length := by
    have e := congrArg List.length hkeys
    rw [List.length_map, List.length_map] at e
    exact e
  have hlk : kvs.length = ks.length := by
    have e := congrArg List.length hks
    rw [List.length_map, List.length_map] at e
    exact e
  have h16 : vs.length ≤ sizeLine := by rw [hl, ← hlk]; exact z
  refine PyProof.Rows.call_function_entry_kw PyProof.Rows.kind_sorted PyProof.Rows.plain_sorted PyProof.Rows.entry_sorted (PyProof.Rows.ksk_s1 _ _) ?_
  unfold Builtin.«sorted»
  refine wpAny_bind (m := checkCount "sorted" 1 1 _) (wpAny_pure ?_)
  refine wpAny_bind (PySem.W.kdu_collect (A := X.A.in1) (PySem.W.kdl_dict (knd := mixKind X.prog X.w) (kvs := vs) (ep := ep) lo) (I.ok.hd hcalm) hat h16 fun h' tk acc hk hacc => ?_)
  have hal : acc.toList.length = ks.length := by rw [Array.length_toList, hacc.1, hl]
  have hS : PySem.W.EachIs (fun v w => ∃ t, v = Value.str w t) acc.toList ks := Fp.strs_each hal fun j v e => by
    obtain ⟨k, x, e1, e2⟩ := hacc.2 j v (by rw [← Array.getElem?_toList]; exact e)
    have e3 : (vs.map (·.1))[j]? = some k := by rw [List.getElem?_map, e1]; all_goals rfl
    rw [hkeys, List.getElem?_map] at e3
    cases e4 : ks[j]? with
    | none => rw [e4] at e3; cases e3
    | some y =>
      rw [e4] at e3
      have e5 : Sum.inr y = k := Option.some.inj e3
      subst e5
      obtain ⟨t, ev⟩ := Value.isStrOf_shape (x := y) (v := v) e2
      exact ⟨y, t, rfl, ev⟩
  have I1 : Inv X pins σ H { s with heap := h', toks := tk } := I.kept hk
  refine wpAny_bind (wpAny_newList ?_ (by rw [hal, ← hlk]; exact z))
  have hoL : (h'.push (seqObj "list" acc.toList.toArray 0)).get? h'.objs.size = some (seqObj "list" acc.toList.toArray 0) := Heap.get?_push_size _ rfl
  show wpAny _ _ _ _ _ { s with heap := h'.push (seqObj "list" acc.toList.toArray 0), toks := tk }
  refine wpAny_bind (wpAny_holding (wpAny_call_entry_kw slot_list_sort ⟨_, hoL, rfl⟩ entry_list_sort ?body (PyProof.Rows.ksk_l1 _ _)))
  case body =>
    show wpAny (model X.prog X.w) X.A.in1.in1 (Builtin.«list.sort» ⟨[.ref h'.objs.size], [(Str.ofString "key", .ref fR)]⟩) _ _ _
    rw [ksk_t1]
    have hun := hr.un
    have hdp := hr.dp
    refine PySem.W.keyH_tree (kz := ks.map Fp.rk) (s := { s with heap := h'.push (seqObj "list" acc.toList.toArray 0), toks := tk }) hoL (by rw [List.length_map]; exact hal.symm) (by rw [hal, ← hlk]; exact z) (Fp.rk_all ks) (Fp.rk_sortable ks)
      (fun d hd => by
        obtain ⟨w, _, rfl⟩ := List.mem_map.mp hd
        have := Fp.rk_depth w
        show X.A.units + 1 + 1 + _ < _
        omega)
      (PySem.W.keyH_turns (s := { s with heap := h'.push (seqObj "list" acc.toList.toArray 0), toks := tk }) hS fun v x hR hx h tk2 kp => ?_) fun h2 tk2 out c kp hD ko => ⟨_, rfl, ?_⟩
    · obtain ⟨t, rfl⟩ := hR
      refine Fp.rank_call (s := { s with heap := h, toks := tk2 }) F I.ok.mod (fun b o e => ?_) hlen ?_ (hwl x hx)
      · have e1 : s.heap.get? b = some o := I.bk b o e
        have e2 : h'.get? b = some o := hk b o e1
        exact kp b o (Nat.ne_of_lt (Heap.lt_size e2)) (Heap.get?_push_of_some _ e2)
      · show X.A.depth + 1 < _
        omega
    · have ev := PySem.W.keyedOut_each Fp.rk ko hS
      have hlen2 : ((ks.mergeSort Fp.leR).map V.str).length ≤ sizeLine := by
        rw [List.length_map, List.length_mergeSort, ← hlk]
        exact z
      refine wpAny_pure ⟨_, rfl, .ref h'.objs.size, upd H h'.objs.size (.lst ((ks.mergeSort Fp.leR).map V.str)), I1.laid (t' := tk2) (fun b u e => kp b u (Nat.ne_of_lt (Heap.lt_size e)) (Heap.get?_push_of_some _ e)) (Nat.le_refl _)
        (show ObjOk X.prog X.w _ _ _ (.lst ((ks.mergeSort Fp.leR).map V.str)) from ⟨hlen2, out, c, Fp.vals_strs ev, hD⟩), rfl, q _ (I1.hok.fresh (Nat.le_refl _))⟩
/-- sorted(xs), xs a list of pairs of an int and a text -/
def rSortIS (K : PySem.W.Frag) : List V → Hp → VK → Prop := fun vs H Q => ∃ (a : Addr) (ps : List Fp.IS), vs = [.ref a] ∧ SqL K H a (ps.map fun p => V.ref p.1) ∧ (∀ p ∈ ps, H p.1 = some (.tup [.int p.2.1, .str p.2.2])) ∧
  ∀ p, H p = none → Q (.ref p) (upd H p (.lst ((ps.mergeSort Fp.leIS).map fun p => V.ref p.1)))
theorem cr_sortIS (hr : Room 1 X.A) : CallR X (.builtin "sorted") (rSortIS X.K) := by
  intro pins s σ H vs us Q I r h
  obtain ⟨a, ps, rfl, hs, hp, q⟩ := h
  obtain rfl := Vals.ref1 r
  obtain ⟨its, rv, hl, hz⟩ := I.list hs
  have hE := Fp.refs_each rv
  have hl2 : its.length = ps.length := by rw [← rv.length, List.length_map]
  have hun := hr.un
  have hz2 : ps.length ≤ sizeLine := by rw [List.length_map] at hz; exact hz
  refine PySem.W.sorted_data (enc := Fp.enIS) (bs := ps) hl.isList hE ?_ (Fp.is_all ps) (Fp.is_sortable ps) hz2 (fun b hb => ?_) fun out hlo ho => ?_
  · refine PySem.W.EachIs.of_zip hl2 fun z hz => ?_
    obtain ⟨v, p⟩ := z
    have hv : v = Value.ref p.1 := PySem.W.EachIs.zip hE (v, p) hz
    have hm : p ∈ ps := (List.of_mem_zip hz).2
    obtain ⟨_, its2, r2, o, h1, h2, n, h3⟩ := I.hok _ _ (hp p hm)
    obtain ⟨u1, u2, rfl, ⟨t1, e1⟩, ⟨t2, e2⟩⟩ := vals2 r2
    subst hv e1 e2
    exact ⟨_, Reads.tuple h1 h2 h3 (ReadsAll.cons (Reads.int _ _) (ReadsAll.cons (Reads.str _ _) ReadsAll.nil))⟩
  · have := Fp.is_depth b
    omega
  · obtain ⟨ep, he'⟩ := PyProof.Rows.sortedAll_at s.heap its out.toArray
    have hlen : ((ps.mergeSort Fp.leIS).map fun p => V.ref p.1).length ≤ sizeLine := by
      rw [List.length_map, List.length_mergeSort]
      exact hz2
    exact ⟨.ref _, upd H (s.heap.objs.size + 1) (.lst ((ps.mergeSort Fp.leIS).map fun p => V.ref p.1)), I.laid (t' := s.toks) (fun _ _ => PyProof.Rows.sortedAll_old) (Nat.le_succ _) ⟨hlen, out, ep, Fp.each_refs ho, he'⟩, rfl, q _ (I.hok.fresh (Nat.le_succ _))⟩
end
end L2

set_option Elab.async false
set_option linter.all false
set_option maxRecDepth 100000
set_option maxHeartbeats 2000000
/-! what is shared: a def by its name, heaps, tables of words -/
namespace L2
open PySem PySem.Spec PyProof.Rows
/-- a tuple as tuple() makes it: no dict of its own -/
def PlainTup (o : Obj) : Prop := o.cls = .type "tuple" ∧ o.dict = none ∧ ∃ (its : Array Value) (n : Nat), o.data = .seq its n
section
variable {X : Cx}
/-- tuple(l): a new tuple, its object known -/
theorem call_tupleF : CallR X (.type "tuple") (fun xs H Q => ∃ p ys, xs = [.ref p] ∧ SqL X.K H p ys ∧ ∀ l o, H l = none → PlainTup o → Q (.ref l) (upd H l (.frz o (.tup ys)))) := by
  intro pins s σ H xs us Q I r h
  obtain ⟨p, ys, rfl, hq, q⟩ := h
  obtain ⟨u, rfl, rx⟩ := vals1 r
  cases rx
  obtain ⟨its, r', pl, hz⟩ := I.list hq
  have hlen := r'.length
  refine call_tuple_list pl.isList (fun h' kp => ?_) (by simp only [List.size_toArray] <;> omega)
  have I1 : Inv X pins σ H { s with heap := h' } := I.kept (t' := s.toks) kp
  have I2 : Inv X pins σ (upd H h'.objs.size (.frz { cls := .type "tuple", data := .seq its.toArray } (.tup ys))) { s with heap := h'.push { cls := .type "tuple", data := .seq its.toArray } } :=
    I1.laid (t' := s.toks) (fun b o e => Heap.get?_push_of_some _ e) (Nat.le_refl _) (show ObjOk X.prog X.w _ _ _ (.frz _ (.tup ys)) from ⟨Heap.get?_push_size _ rfl, hz, its, r', IsTup.new _ _⟩)
  exact ⟨.ref h'.objs.size, _, I2, rfl, q _ _ (I1.hok.fresh (Nat.le_refl _)) ⟨rfl, rfl, _, _, rfl⟩⟩
theorem refs_get : ∀ {ps : List Addr} {us : List Value}, Vals (ps.map V.ref) us → us = ps.map Value.ref
  | [], _, h => by cases h; rfl
  | p :: ps, _, h => by
    cases h with
    | cons r t =>
      cases r
      rw [refs_get t] <;> rfl
/-- dict(t), t such a tuple of pairs -/
theorem call_dictPT (hcalm : X.calm = true) : CallR X (.type "dict") (fun xs H Q => ∃ (a : Addr) (o : Obj) (ps : List Addr) (kvs : List (Key × V)), xs = [.ref a] ∧ H a = some (.frz o (.tup (ps.map V.ref))) ∧ PlainTup o ∧ Paired (fun p kv => SqT X.K H p [kV kv.1, kv.2]) ps kvs ∧
    ∀ p, H p = none → Q (.ref p) (upd H p (.dK (mergeK [] kvs)))) := by
  intro pins s σ H xs us Q I r q
  obtain ⟨a, o, ps, kvs, ex, hq, ⟨pc, pd, pits, pn, pdat⟩, hp, q⟩ := q
  subst ex
  obtain ⟨u, eu, rx⟩ := vals1 r
  subst eu
  cases rx
  obtain ⟨ho, hz, its, rv, o2, ho2, hc2, n2, hdat2⟩ := (show ObjOk X.prog X.w H s.heap a (.frz o (.tup (ps.map V.ref))) from I.hok a _ hq)
  rw [ho] at ho2
  cases ho2
  have ei := refs_get rv
  subst ei
  rw [List.length_map] at hz
  obtain ⟨prs, rel, hl, hpr⟩ := pairs_of I hp
  -- the keys' values
  have hks : ∃ us : List Value, us.length = prs.length ∧ ∀ (j : Nat) (q : Key × Value), prs[j]? = some q → ∃ (b : Addr) (u : Value), us[j]? = some u ∧ ps[j]? = some b ∧ IsTup s.heap b #[u, q.2] ∧ keyIs q.1 u = true := by
    have hall : ∀ j : Nat, j < prs.length → ∃ u : Value, ∀ q, prs[j]? = some q → ∃ b, ps[j]? = some b ∧ IsTup s.heap b #[u, q.2] ∧ keyIs q.1 u = true := fun j hj => by
      obtain ⟨b, u, e1, e2, e3⟩ := hpr j prs[j] (List.getElem?_eq_getElem hj)
      refine ⟨u, fun q e => ?_⟩
      rw [List.getElem?_eq_getElem hj] at e
      cases e
      exact ⟨b, e1, e2, e3⟩
    let f : Nat → Value := fun j => if hj : j < prs.length then Classical.choose (hall j hj) else .none
    refine ⟨(List.range prs.length).map f, by simp, fun j q e => ?_⟩
    have hj : j < prs.length := (List.getElem?_eq_some_iff.mp e).1
    have hsp := Classical.choose_spec (hall j hj) q e
    obtain ⟨b, e1, e2, e3⟩ := hsp
    refine ⟨b, f j, by simp [hj], e1, ?_, ?_⟩
    · show IsTup s.heap b #[f j, q.2]
      have : f j = Classical.choose (hall j hj) := dif_pos hj
      rw [this]
      exact e2
    · have : f j = Classical.choose (hall j hj) := dif_pos hj
      rw [this]
      exact e3
  obtain ⟨us, hus, hk⟩ := hks
  let vps : List (Value × Value) := us.zip (prs.map (·.2))
  have hvl : vps.length = prs.length := by simp [vps, hus]
  have hget : ∀ j k v, vps[j]? = some (k, v) → ∃ q : Key × Value, prs[j]? = some q ∧ q.2 = v ∧ us[j]? = some k := fun j k v e => by
    obtain ⟨e1, e2⟩ := List.getElem?_zip_eq_some.mp e
    rw [List.getElem?_map] at e2
    cases e3 : prs[j]? with
    | none => rw [e3] at e2; cases e2
    | some q =>
      rw [e3] at e2
      exact ⟨q, e3, Option.some.inj e2, e1⟩
  refine PySem.call_dict_pairs (knd := mixKind X.prog X.w) (kvs := prs) (PairArg.tuple a (ps.map Value.ref).toArray (fun j => ps.getD j 0) vps) (I.ok.hd hcalm) ⟨⟨o, n2, ho, pc, pd, hdat2⟩, ?_, fun j k v e => ?_⟩ ⟨hvl.symm, fun j k v e => ?_⟩ (by rw [hvl, hl]; exact hz) fun h' tk hd' kp => ?_
  · rw [hvl, hl]
    simp
  · obtain ⟨q, e1, e2, e3⟩ := hget j k v e
    obtain ⟨b, u, f1, f2, f3, f4⟩ := hk j q e1
    rw [e3] at f1
    cases f1
    subst e2
    refine ⟨?_, .inl ?_⟩
    · simp [List.getD, f2]
    · show IsTup s.heap (ps.getD j 0) #[k, q.2]
      rw [show ps.getD j 0 = b by simp [List.getD, f2]]
      exact f3
  · obtain ⟨q, e1, e2, e3⟩ := hget j k v e
    obtain ⟨b, u, f1, f2, f3, f4⟩ := hk j q e1
    rw [e3] at f1
    cases f1
    exact ⟨q.1, by rw [e1, ← e2], f4⟩
  · have hm : (s.heap.objs.size == sysModules) = false := beq_eq_false_iff_ne.mpr (Nat.ne_of_gt I.big)
    have hlen : (mergeK [] kvs).length ≤ sizeLine := by
      refine Nat.le_trans (length_mergeK kvs []) ?_
      rw [List.length_nil, Nat.zero_add, rel.length, hl]
      exact hz
    exact ⟨.ref s.heap.objs.size, upd H s.heap.objs.size (.dK (mergeK [] kvs)), I.laid (t' := tk) (fun b o e => kp b o (by simp) e) (Nat.le_refl _) (show ObjOk X.prog X.w _ _ _ (.dK (mergeK [] kvs)) from ⟨hlen, hm, merged [] prs, KV.merge rel .nil, hd'⟩), rfl, q _ (I.hok.fresh (Nat.le_refl _))⟩
end
end L2
namespace Fp
open PySem PySem.Spec PyProof.Rows L2
/-! ### a def of the top by its name -/
structure Ok (P : Program) (w : World) (K : PySem.W.Frag) (mg : Str → Option Value) (base : Heap) (k : Nat) (x : Str) (ps : List Str) (sp : Sp) : Prop where
  ex : ∃ fd, FnOk P w K mg base CX0 k (He.ga K x) fd ps sp ∧ Binds K fd ps []
  g : mg x = some (.ref (He.ga K x))
  kp : PySem.W.keepIn K (.ref (He.ga K x)) = true
theorem pc {X : Cx} {x : Str} {p pos : Pos} {e : Expr} {es : List Expr} {t : TA} {k : Nat} {ps : List Str} {sp : Sp} (G : Ok X.prog X.w X.K X.mg X.base k x ps sp) (hr : Room k X.A) (ha : PA X (e :: es) t) (hg : Gl X x := by rfl) (hdb : (x == ("__debug__" : Str)) = false := by decide)
    (he : starEach (e :: es) X.env = (false, eval e X.env) :: starEach es X.env := by rfl) (hpl : (backTo pos (starEach es X.env)).any (·.1) = false := by rfl) : PE X (.Call (.Name x p) (e :: es) [] pos) (tCall sp [] E0 t) := by
  obtain ⟨fd, F, b⟩ := G.ex
  exact pe_call F hr hg G.g G.kp b .nil pass0 ha hdb he hpl
theorem Ok.mono {P : Program} {w : World} {K : PySem.W.Frag} {mg : Str → Option Value} {base : Heap} {j k : Nat} {x : Str} {ps : List Str} {sp : Sp} (G : Ok P w K mg base j x ps sp) (h : j ≤ k) : Ok P w K mg base k x ps sp := by
  obtain ⟨fd, F, b⟩ := G.ex
  exact ⟨⟨fd, F.mono h, b⟩, G.g, G.kp⟩
/-! ### heaps -/
/-- all that was tracked stays, but for a -/
def But (a : Addr) (H H' : Hp) : Prop := ∀ b o, H b = some o → b ≠ a → H' b = some o
theorem But.refl (a : Addr) (H : Hp) : But a H H := fun _ _ e _ => e
theorem But.trans {a : Addr} {H H1 H2 : Hp} (x : But a H H1) (y : But a H1 H2) : But a H H2 := fun b o e n => y b o (x b o e n) n
theorem But.of {a : Addr} {H H' : Hp} (s : Same H H') : But a H H' := fun b o e _ => s b o e
theorem But.free {a : Addr} {H H' : Hp} (x : But a H H') (hs : ∃ o, H' a = some o) {l : Addr} (e : H' l = none) : H l = none := by
  cases q : H l with
  | none => rfl
  | some o =>
    by_cases hl : l = a
    · obtain ⟨u, hu⟩ := hs
      rw [hl] at e
      rw [hu] at e
      cases e
    · rw [x l o q hl] at e
      cases e
theorem same_upd {H : Hp} {p : Addr} {o : HO} (h : H p = none) : Same H (upd H p o) := fun b x e => by
  rw [upd_ne (ne_of_none e h)]
  exact e
theorem but_upd {H : Hp} {p : Addr} {o : HO} : But p H (upd H p o) := fun b x e n => by
  rw [upd_ne n]
  exact e
theorem lock_back {H : Hp} {d : Addr} {o u : HO} (h : H d = some o) (e : o = u) : upd (upd H d u) d o = H := by
  subst e
  rw [upd_upd]
  funext b
  by_cases hb : b = d
  · rw [hb, upd_same, h]
  · rw [upd_ne hb]
/-! ### tables: words with numbers, in the order in which they were put in -/
abbrev Tb : Type := List (Str × Int)
def kv (l : Tb) : List (Key × V) := l.map fun p => ((Sum.inr p.1 : Key), V.int p.2)
def num (l : Tb) (x : Str) : Int := ((l.find? fun p => decide (p.1 = x)).map (·.2)).getD 0
def has (l : Tb) (x : Str) : Bool := l.any fun p => decide (p.1 = x)
def putT (l : Tb) (x : Str) (n : Int) : Tb := if has l x then l.map (fun p => if p.1 = x then (p.1, n) else p) else l ++ [(x, n)]
def dropT (l : Tb) (x : Str) : Tb := l.filter fun p => decide (p.1 ≠ x)
theorem kv_len (l : Tb) : (kv l).length = l.length := List.length_map _
theorem kv_keys (l : Tb) : (kv l).map (·.1) = (l.map (·.1)).map Sum.inr := by
  unfold kv
  rw [List.map_map, List.map_map]
  rfl
theorem valV_kv (x : Str) : ∀ l : Tb, valV (kv l) (Sum.inr x : Key) = (l.find? fun p => decide (p.1 = x)).map fun p => V.int p.2
  | [] => rfl
  | p :: r => by
    have ih := valV_kv x r
    by_cases e : p.1 = x
    · rw [List.find?_cons_of_pos (by simpa using e)]
      exact valV_pos (p := ((Sum.inr p.1 : Key), V.int p.2)) (by rw [e])
    · rw [List.find?_cons_of_neg (by simpa using e)]
      exact (valV_neg (p := ((Sum.inr p.1 : Key), V.int p.2)) (fun z => e (Sum.inr.inj z))).trans ih
theorem has_find (l : Tb) (x : Str) : has l x = (l.find? fun p => decide (p.1 = x)).isSome := by
  unfold has
  induction l with
  | nil => rfl
  | cons p r ih =>
    by_cases e : p.1 = x
    · rw [List.find?_cons_of_pos (by simpa using e), List.any_cons]
      simp [e]
    · rw [List.find?_cons_of_neg (by simpa using e), List.any_cons, ih]
      simp [e]
theorem valV_yes {l : Tb} {x : Str} (h : has l x = true) : valV (kv l) (Sum.inr x : Key) = some (.int (num l x)) := by
  rw [valV_kv]
  rw [has_find] at h
  unfold num
  cases e : l.find? fun p => decide (p.1 = x) with
  | none => rw [e] at h; cases h
  | some p => rfl
theorem valV_no {l : Tb} {x : Str} (h : has l x = false) : valV (kv l) (Sum.inr x : Key) = none ∧ num l x = 0 := by
  rw [valV_kv]
  rw [has_find] at h
  unfold num
  cases e : l.find? fun p => decide (p.1 = x) with
  | none => exact ⟨rfl, rfl⟩
  | some p => rw [e] at h; cases h
theorem putK_kv (l : Tb) (x : Str) (n : Int) : putK (kv l) (Sum.inr x : Key) (.int n) = kv (putT l x n) := by
  have ea : ((kv l).any fun q => decide (q.1 = (Sum.inr x : Key))) = has l x := by
    unfold kv has
    rw [List.any_map]
    congr 1
    funext p
    by_cases e : p.1 = x
    · simp [e]
    · simp [e]
  unfold putK putT
  rw [ea]
  cases has l x with
  | true =>
    rw [if_pos rfl, if_pos rfl]
    unfold kv
    rw [List.map_map, List.map_map]
    apply List.map_congr_left
    intro p _
    by_cases e : p.1 = x
    · simp [e]
    · simp [e]
  | false =>
    rw [if_neg Bool.false_ne_true, if_neg Bool.false_ne_true]
    unfold kv
    rw [List.map_append]
    rfl
theorem dropK_kv (l : Tb) (x : Str) : dropK (kv l) (Sum.inr x : Key) = kv (dropT l x) := by
  unfold dropK dropT kv
  rw [List.filter_map]
  congr 1
  apply List.filter_congr
  intro p _
  by_cases e : p.1 = x
  · simp [e]
  · simp [e]
/-- a table of distinct words -/
def Nd (l : Tb) : Prop := (l.map (·.1)).Nodup
theorem has_iff {l : Tb} {x : Str} : has l x = true ↔ x ∈ l.map (·.1) := by
  unfold has
  rw [List.any_eq_true]
  constructor
  · rintro ⟨p, hp, e⟩
    exact List.mem_map.mpr ⟨p, hp, of_decide_eq_true e⟩
  · intro h
    obtain ⟨p, hp, e⟩ := List.mem_map.mp h
    exact ⟨p, hp, decide_eq_true e⟩
theorem putT_keys {l : Tb} {x : Str} {n : Int} : (putT l x n).map (·.1) = if has l x then l.map (·.1) else l.map (·.1) ++ [x] := by
  unfold putT
  cases has l x with
  | true =>
    rw [if_pos rfl, if_pos rfl, List.map_map]
    apply List.map_congr_left
    intro p _
    by_cases e : p.1 = x
    · simp [e]
    · simp [e]
  | false =>
    rw [if_neg Bool.false_ne_true, if_neg Bool.false_ne_true, List.map_append]
    rfl
theorem nd_put {l : Tb} (h : Nd l) (x : Str) (n : Int) : Nd (putT l x n) := by
  unfold Nd
  rw [putT_keys]
  cases e : has l x with
  | true => exact h
  | false =>
    rw [if_neg Bool.false_ne_true, List.nodup_append]
    refine ⟨h, by simp, fun a ha b hb => ?_⟩
    have : b = x := by simpa using hb
    subst this
    rintro rfl
    rw [has_iff.mpr ha] at e
    cases e
theorem nd_drop {l : Tb} (h : Nd l) (x : Str) : Nd (dropT l x) := by
  unfold Nd dropT
  exact (List.Sublist.map _ List.filter_sublist).nodup h
theorem mem_put {l : Tb} {x : Str} {n : Int} {p : Str × Int} (h : p ∈ putT l x n) : p = (x, n) ∨ p ∈ l := by
  unfold putT at h
  cases e : has l x with
  | true =>
    rw [e, if_pos rfl] at h
    obtain ⟨q, hq, e2⟩ := List.mem_map.mp h
    by_cases e3 : q.1 = x
    · rw [if_pos e3, e3] at e2
      exact .inl e2.symm
    · rw [if_neg e3] at e2
      exact .inr (e2 ▸ hq)
  | false =>
    rw [e, if_neg Bool.false_ne_true] at h
    rcases List.mem_append.mp h with h | h
    · exact .inr h
    · exact .inl (by simpa using h)
theorem len_put (l : Tb) (x : Str) (n : Int) : (putT l x n).length ≤ l.length + 1 := by
  unfold putT
  split
  · rw [List.length_map]
    omega
  · rw [List.length_append]
    simp
end Fp

set_option Elab.async false
set_option linter.all false
set_option maxRecDepth 100000
set_option maxHeartbeats 2000000
/-! a written dict from ints to tuples of ints, read: d[k] -/
namespace L2
open PySem PySem.Spec PyProof.Rows
abbrev WTab : Type := List (Int × List Int)
def intsB : List Int → List Value → Bool
  | [], [] => true
  | n :: ns, .int i _ :: vs => decide (i = n) && intsB ns vs
  | _, _ => false
theorem intsB_vals : ∀ (ns : List Int) (vs : List Value), intsB ns vs = true → Vals (ns.map V.int) vs
  | [], [], _ => .nil
  | n :: ns, .int i t :: vs, h => by
    have h' : (decide (i = n) && intsB ns vs) = true := h
    rw [Bool.and_eq_true] at h'
    have e : i = n := of_decide_eq_true h'.1
    subst e
    exact .cons ⟨t, rfl⟩ (intsB_vals ns vs h'.2)
def tupO (K : PySem.W.Frag) (a : Addr) (ns : List Int) : Bool := match K.lookup a with
  | some o => (match o.cls, o.data with
    | .type c, .seq its _ => decide (c = "tuple") && (decide (its.size ≤ sizeLine) && intsB ns its.toList)
    | _, _ => false)
  | none => false
theorem tupO_sq {K : PySem.W.Frag} {a : Addr} {ns : List Int} (h : tupO K a ns = true) (H : Hp) : SqT K H a (ns.map V.int) := by
  unfold tupO at h
  split at h
  · rename_i o ho
    split at h
    · rename_i c its n hc hd
      simp only [Bool.and_eq_true, decide_eq_true_eq] at h
      obtain ⟨h1, h2, h3⟩ := h
      subst h1
      exact .inr ⟨o, its, n, ho, hc, hd, h2, intsB_vals _ _ h3⟩
    · cases h
  · cases h
def entB (K : PySem.W.Frag) : WTab → List DictEntry → Bool
  | [], [] => true
  | p :: r, e :: es => (match e.key, e.val with
    | .int i _, .ref a => decide (i = p.1) && (decide (e.hash = hashInt p.1) && tupO K a p.2)
    | _, _ => false) && entB K r es
  | _, _ => false
def wdB (K : PySem.W.Frag) (a : Addr) (t : WTab) : Bool := match K.lookup a with
  | some o => (match o.cls, o.dict, o.data with
    | .type c, none, .dict es _ => decide (c = "dict") && (decide (o.slots.size = 0) && entB K t es.toList)
    | _, _, _ => false)
  | none => false
theorem entB_pairs {P : Program} {w : World} {K : PySem.W.Frag} : ∀ (t : WTab) (es : List DictEntry), entB K t es = true → ∃ vs : List (Key × Value), Pairs (mixKind P w) es vs ∧ (∀ e ∈ es, ∃ k, (mixKind P w).is k e.key = true ∧ e.hash = (mixKind P w).hash k) ∧
    Paired (fun (p : Int × List Int) (v : Key × Value) => v.1 = Sum.inl p.1 ∧ ∃ b, v.2 = .ref b ∧ tupO K b p.2 = true) t vs
  | [], [], _ => ⟨[], .nil, (fun e he => by cases he), .nil⟩
  | p :: r, e :: es, h => by
    unfold entB at h
    rw [Bool.and_eq_true] at h
    obtain ⟨h1, h2⟩ := h
    obtain ⟨vs, a1, a2, a3⟩ := entB_pairs r es h2
    obtain ⟨eh, ek, ev⟩ := e
    cases ek with
    | int i tk =>
      cases ev with
      | ref a =>
        have h1 : (decide (i = p.1) && (decide (eh = hashInt p.1) && tupO K a p.2)) = true := h1
        simp only [Bool.and_eq_true, decide_eq_true_eq] at h1
        obtain ⟨e1, e2, e3⟩ := h1
        subst e1
        refine ⟨(Sum.inl p.1, .ref a) :: vs, .cons (keyIs_int _ tk) rfl a1, (fun x hx => ?_), .cons ⟨rfl, a, rfl, e3⟩ a3⟩
        rcases List.mem_cons.mp hx with rfl | hx
        · exact ⟨Sum.inl p.1, keyIs_int _ tk, e2⟩
        · exact a2 x hx
      | _ => exact absurd h1 (by simp)
    | _ => exact absurd h1 (by simp)
theorem pairs_find {K : PySem.W.Frag} {t : WTab} {vs : List (Key × Value)} (h : Paired (fun (p : Int × List Int) (v : Key × Value) => v.1 = Sum.inl p.1 ∧ ∃ b, v.2 = .ref b ∧ tupO K b p.2 = true) t vs) (hn : (t.map (·.1)).Nodup) :
    (vs.map (·.1)).Nodup ∧ (∀ v ∈ vs, ∃ p ∈ t, v.1 = Sum.inl p.1) ∧ ∀ p ∈ t, ∃ b, valueAt vs (Sum.inl p.1 : Key) = some (.ref b) ∧ tupO K b p.2 = true := by
  induction h with
  | nil => exact ⟨List.nodup_nil, fun v hv => (by cases hv), fun p hp => (by cases hp)⟩
  | @cons p v t vs e r ih =>
    have hn' : (p.1 :: t.map (·.1)).Nodup := hn
    obtain ⟨n1, n2⟩ := List.nodup_cons.mp hn'
    obtain ⟨i1, i2, i3⟩ := ih n2
    obtain ⟨e1, b, e2, e3⟩ := e
    refine ⟨?_, fun u hu => ?_, fun q hq => ?_⟩
    · rw [List.map_cons, List.nodup_cons]
      refine ⟨fun hm => ?_, i1⟩
      obtain ⟨u, hu, eu⟩ := List.mem_map.mp hm
      obtain ⟨q, hq, eq⟩ := i2 u hu
      have : (Sum.inl q.1 : Key) = Sum.inl p.1 := (eq.symm.trans eu).trans e1
      injection this with this
      exact n1 (this ▸ List.mem_map.mpr ⟨q, hq, rfl⟩)
    · rcases List.mem_cons.mp hu with rfl | hu
      · exact ⟨p, List.mem_cons_self, e1⟩
      · obtain ⟨q, hq, eq⟩ := i2 u hu
        exact ⟨q, List.mem_cons_of_mem _ hq, eq⟩
    · unfold valueAt
      rcases List.mem_cons.mp hq with rfl | hq
      · rw [List.find?_cons_of_pos (by simp [e1])]
        exact ⟨b, by rw [Option.map_some, e2], e3⟩
      · obtain ⟨b', h1, h2⟩ := i3 q hq
        refine ⟨b', ?_, h2⟩
        rw [List.find?_cons_of_neg]
        · exact h1
        · rw [e1]
          intro z
          have z' : (Sum.inl p.1 : Key) = Sum.inl q.1 := of_decide_eq_true z
          injection z' with z'
          exact n1 (z' ▸ List.mem_map.mpr ⟨q, hq, rfl⟩)
/-- d[k], d written -/
def tWD (K : PySem.W.Frag) (t : WTab) (ta tb : TE) : TE := fun σ H Q => ta σ H fun x H1 => tb σ H1 fun y H2 => ∃ (a : Addr) (k : Int) (ns : List Int), x = .ref a ∧ wdB K a t = true ∧ y = .int k ∧ (k, ns) ∈ t ∧ ∀ b, tupO K b ns = true → Q (.ref b) H2
theorem pe_wd {X : Cx} {t : WTab} {o i : Expr} {ta tb : TE} {pos : Pos} (hn : (t.map (·.1)).Nodup) (ho : PE X o ta) (hi : PE X i tb) (hs : NoSl i) : PE X (.Subscript o i pos) (tWD X.K t ta tb) := by
  constructor
  intro pins s σ H Q I h
  refine subD_of PySem.F.slot_dict_getitem.lookup hs (thn (ho.run pins s σ H _ I h) fun u s1 ⟨x, H1, I1, rx, q1⟩ => thn (hi.run pins s1 σ H1 _ I1 q1) fun iv s2 ⟨y, H2, I2, ry, a, k, ns, ex, hw, ey, hm, q2⟩ => ?_)
  subst ex
  subst ey
  cases rx
  obtain ⟨tk, rfl⟩ := ry
  unfold wdB at hw
  split at hw
  · rename_i ob hob
    split at hw
    · rename_i c es ep hc hd hdat
      simp only [Bool.and_eq_true, decide_eq_true_eq] at hw
      obtain ⟨w1, w2, w3⟩ := hw
      subst w1
      obtain ⟨vs, p1, p2, p3⟩ := entB_pairs (P := X.prog) (w := X.w) t es.toList w3
      obtain ⟨f1, f2, f3⟩ := pairs_find p3 hn
      obtain ⟨b, v1, v2⟩ := f3 (k, ns) hm
      have dd : s2.heap.DictOf (mixKind X.prog X.w) a vs := ⟨ob, es, ep, I2.kIn a ob hob, ⟨hc, hd, Array.eq_empty_of_size_eq_zero w2⟩, hdat, fun e he => p2 e (Array.mem_def.mp he), p1, f1⟩
      exact ⟨dd.typeIs, wpAny_getItem_of (knd := mixKind X.prog X.w) (k := (Sum.inl k : Key)) (keyIs_int k tk) dd.mapOf v1 ⟨.ref b, H2, I2.tok _, rfl, q2 b v2⟩⟩
    · cases hw
  · cases hw
end L2

set_option Elab.async false
set_option linter.all false
set_option maxRecDepth 100000
set_option maxHeartbeats 2000000
namespace Fp
open PySem PySem.Spec PyProof.Rows L2
def top (i : Nat) : Stmt := PySem.Challenge.pw_frontparts_k24_whole_level_ways.main.body.getD i (.Pass ⟨0, 0, 0, 0⟩)
abbrev s_is_integer : Stmt := top 10
abbrev s_is_from_to : Stmt := top 11
abbrev s_is_clock : Stmt := top 12
abbrev s_is_word : Stmt := top 13
abbrev s_inverse : Stmt := top 16
abbrev s_rank_of : Stmt := top 17
abbrev s_first_word : Stmt := top 18
abbrev s_tidied : Stmt := top 19
abbrev s_scaled : Stmt := top 20
abbrev s_multiplied : Stmt := top 21
abbrev s_Bag__init__ : Stmt := inClass (top 25) 0
abbrev s_Bag__eq__ : Stmt := inClass (top 25) 1
abbrev s_are_words : Stmt := top 26
abbrev s_is_short_word : Stmt := top 27
abbrev s_pairs_of : Stmt := top 28
abbrev s_bag_of : Stmt := top 29
abbrev s_table_of : Stmt := top 30
abbrev s_check_clocks : Stmt := top 31
abbrev s_check_something : Stmt := top 32
abbrev s_behind : Stmt := top 33
abbrev s_times : Stmt := top 34
abbrev s_length : Stmt := top 35
abbrev s_plain : Stmt := top 36
abbrev s_level_way : Stmt := top 38
abbrev s_check_level : Stmt := top 39
abbrev s_halved : Stmt := top 40
abbrev s_lines_of : Stmt := top 41
abbrev s_crossing_of : Stmt := top 42
abbrev s__law_hand : Stmt := top 44
abbrev s__law_draw : Stmt := top 45
abbrev s__law_some : Stmt := top 46
abbrev s__law_key : Stmt := top 47
abbrev s__law_put_to : Stmt := top 48
abbrev s__law_added : Stmt := top 49
abbrev s__law_product : Stmt := top 50
abbrev s__law_size : Stmt := top 51
abbrev s__law_lead : Stmt := top 52
abbrev s__law_inverse : Stmt := top 53
abbrev s__law_plain : Stmt := top 54
abbrev s__law_dict : Stmt := top 55
abbrev s__law_clock : Stmt := top 56
abbrev s__law_level : Stmt := top 57
abbrev s__law_can_be_cut : Stmt := top 58
abbrev s__law_is_way : Stmt := top 59
abbrev s_law : Stmt := top 60
abbrev FnP (K : PySem.W.Frag) (x q : Str) (st : Stmt) (f : Addr) (fd : FuncData) : Prop := FunD K x q (defArgs st) (defBody st) (defScope st) [] [] f fd
def d_is_integer : He.DefD := ⟨("is_integer", none), "is_integer", "is_integer", defArgs s_is_integer, defBody s_is_integer, defScope s_is_integer, [], []⟩
def d_is_from_to : He.DefD := ⟨("is_from_to", none), "is_from_to", "is_from_to", defArgs s_is_from_to, defBody s_is_from_to, defScope s_is_from_to, [], []⟩
def d_is_clock : He.DefD := ⟨("is_clock", none), "is_clock", "is_clock", defArgs s_is_clock, defBody s_is_clock, defScope s_is_clock, [], []⟩
def d_is_word : He.DefD := ⟨("is_word", none), "is_word", "is_word", defArgs s_is_word, defBody s_is_word, defScope s_is_word, [], []⟩
def d_inverse : He.DefD := ⟨("inverse", none), "inverse", "inverse", defArgs s_inverse, defBody s_inverse, defScope s_inverse, [], []⟩
def d_rank_of : He.DefD := ⟨("rank_of", none), "rank_of", "rank_of", defArgs s_rank_of, defBody s_rank_of, defScope s_rank_of, [], []⟩
def d_first_word : He.DefD := ⟨("first_word", none), "first_word", "first_word", defArgs s_first_word, defBody s_first_word, defScope s_first_word, [], []⟩
def d_tidied : He.DefD := ⟨("tidied", none), "tidied", "tidied", defArgs s_tidied, defBody s_tidied, defScope s_tidied, [], []⟩
def d_scaled : He.DefD := ⟨("scaled", none), "scaled", "scaled", defArgs s_scaled, defBody s_scaled, defScope s_scaled, [], []⟩
def d_multiplied : He.DefD := ⟨("multiplied", none), "multiplied", "multiplied", defArgs s_multiplied, defBody s_multiplied, defScope s_multiplied, [], []⟩
def d_Bag__init__ : He.DefD := ⟨("Bag", some "__init__"), "__init__", "Bag.__init__", defArgs s_Bag__init__, defBody s_Bag__init__, defScope s_Bag__init__, [], []⟩
def d_Bag__eq__ : He.DefD := ⟨("Bag", some "__eq__"), "__eq__", "Bag.__eq__", defArgs s_Bag__eq__, defBody s_Bag__eq__, defScope s_Bag__eq__, [], []⟩
def d_are_words : He.DefD := ⟨("are_words", none), "are_words", "are_words", defArgs s_are_words, defBody s_are_words, defScope s_are_words, [], []⟩
def d_is_short_word : He.DefD := ⟨("is_short_word", none), "is_short_word", "is_short_word", defArgs s_is_short_word, defBody s_is_short_word, defScope s_is_short_word, [], []⟩
def d_pairs_of : He.DefD := ⟨("pairs_of", none), "pairs_of", "pairs_of", defArgs s_pairs_of, defBody s_pairs_of, defScope s_pairs_of, [], []⟩
def d_bag_of : He.DefD := ⟨("bag_of", none), "bag_of", "bag_of", defArgs s_bag_of, defBody s_bag_of, defScope s_bag_of, [], []⟩
def d_table_of : He.DefD := ⟨("table_of", none), "table_of", "table_of", defArgs s_table_of, defBody s_table_of, defScope s_table_of, [], []⟩
def d_check_clocks : He.DefD := ⟨("check_clocks", none), "check_clocks", "check_clocks", defArgs s_check_clocks, defBody s_check_clocks, defScope s_check_clocks, [], []⟩
def d_check_something : He.DefD := ⟨("check_something", none), "check_something", "check_something", defArgs s_check_something, defBody s_check_something, defScope s_check_something, [], []⟩
def d_behind : He.DefD := ⟨("behind", none), "behind", "behind", defArgs s_behind, defBody s_behind, defScope s_behind, [], []⟩
def d_times : He.DefD := ⟨("times", none), "times", "times", defArgs s_times, defBody s_times, defScope s_times, [], []⟩
def d_length : He.DefD := ⟨("length", none), "length", "length", defArgs s_length, defBody s_length, defScope s_length, [], []⟩
def d_plain : He.DefD := ⟨("plain", none), "plain", "plain", defArgs s_plain, defBody s_plain, defScope s_plain, [], []⟩
def d_level_way : He.DefD := ⟨("level_way", none), "level_way", "level_way", defArgs s_level_way, defBody s_level_way, defScope s_level_way, [], []⟩
def d_check_level : He.DefD := ⟨("check_level", none), "check_level", "check_level", defArgs s_check_level, defBody s_check_level, defScope s_check_level, [], []⟩
def d_halved : He.DefD := ⟨("halved", none), "halved", "halved", defArgs s_halved, defBody s_halved, defScope s_halved, [], []⟩
def d_lines_of : He.DefD := ⟨("lines_of", none), "lines_of", "lines_of", defArgs s_lines_of, defBody s_lines_of, defScope s_lines_of, [], []⟩
def d_crossing_of : He.DefD := ⟨("crossing_of", none), "crossing_of", "crossing_of", defArgs s_crossing_of, defBody s_crossing_of, defScope s_crossing_of, [], []⟩
def d__law_hand : He.DefD := ⟨("_law_hand", none), "_law_hand", "_law_hand", defArgs s__law_hand, defBody s__law_hand, defScope s__law_hand, [], []⟩
def d__law_draw : He.DefD := ⟨("_law_draw", none), "_law_draw", "_law_draw", defArgs s__law_draw, defBody s__law_draw, defScope s__law_draw, [], []⟩
def d__law_some : He.DefD := ⟨("_law_some", none), "_law_some", "_law_some", defArgs s__law_some, defBody s__law_some, defScope s__law_some, [], []⟩
def d__law_key : He.DefD := ⟨("_law_key", none), "_law_key", "_law_key", defArgs s__law_key, defBody s__law_key, defScope s__law_key, [], []⟩
def d__law_put_to : He.DefD := ⟨("_law_put_to", none), "_law_put_to", "_law_put_to", defArgs s__law_put_to, defBody s__law_put_to, defScope s__law_put_to, [], []⟩
def d__law_added : He.DefD := ⟨("_law_added", none), "_law_added", "_law_added", defArgs s__law_added, defBody s__law_added, defScope s__law_added, [], []⟩
def d__law_product : He.DefD := ⟨("_law_product", none), "_law_product", "_law_product", defArgs s__law_product, defBody s__law_product, defScope s__law_product, [], []⟩
def d__law_size : He.DefD := ⟨("_law_size", none), "_law_size", "_law_size", defArgs s__law_size, defBody s__law_size, defScope s__law_size, [], []⟩
def d__law_lead : He.DefD := ⟨("_law_lead", none), "_law_lead", "_law_lead", defArgs s__law_lead, defBody s__law_lead, defScope s__law_lead, [], []⟩
def d__law_inverse : He.DefD := ⟨("_law_inverse", none), "_law_inverse", "_law_inverse", defArgs s__law_inverse, defBody s__law_inverse, defScope s__law_inverse, [], []⟩
def d__law_plain : He.DefD := ⟨("_law_plain", none), "_law_plain", "_law_plain", defArgs s__law_plain, defBody s__law_plain, defScope s__law_plain, [], []⟩
def d__law_dict : He.DefD := ⟨("_law_dict", none), "_law_dict", "_law_dict", defArgs s__law_dict, defBody s__law_dict, defScope s__law_dict, [], []⟩
def d__law_clock : He.DefD := ⟨("_law_clock", none), "_law_clock", "_law_clock", defArgs s__law_clock, defBody s__law_clock, defScope s__law_clock, [], []⟩
def d__law_level : He.DefD := ⟨("_law_level", none), "_law_level", "_law_level", defArgs s__law_level, defBody s__law_level, defScope s__law_level, [], []⟩
def d__law_can_be_cut : He.DefD := ⟨("_law_can_be_cut", none), "_law_can_be_cut", "_law_can_be_cut", defArgs s__law_can_be_cut, defBody s__law_can_be_cut, defScope s__law_can_be_cut, [], []⟩
def d__law_is_way : He.DefD := ⟨("_law_is_way", none), "_law_is_way", "_law_is_way", defArgs s__law_is_way, defBody s__law_is_way, defScope s__law_is_way, [], []⟩
def d_law : He.DefD := ⟨("law", none), "law", "law", defArgs s_law, defBody s_law, defScope s_law, [], []⟩
def fn : List He.DefD := [d_is_integer, d_is_from_to, d_is_clock, d_is_word, d_inverse, d_rank_of, d_first_word, d_tidied, d_scaled, d_multiplied, d_Bag__init__, d_Bag__eq__, d_are_words, d_is_short_word, d_pairs_of, d_bag_of, d_table_of, d_check_clocks, d_check_something, d_behind, d_times, d_length, d_plain, d_level_way, d_check_level, d_halved, d_lines_of, d_crossing_of, d__law_hand, d__law_draw, d__law_some, d__law_key, d__law_put_to, d__law_added, d__law_product, d__law_size, d__law_lead, d__law_inverse, d__law_plain, d__law_dict, d__law_clock, d__law_level, d__law_can_be_cut, d__law_is_way, d_law]
def fa : List He.Fa := [.glo "is_integer", .glo "is_from_to", .glo "is_clock", .glo "is_word", .glo "inverse", .glo "rank_of", .glo "first_word", .glo "tidied", .glo "scaled", .glo "multiplied", .glo "are_words", .glo "is_short_word", .glo "pairs_of", .glo "bag_of", .glo "table_of", .glo "check_clocks", .glo "check_something", .glo "behind", .glo "times", .glo "length", .glo "plain", .glo "level_way", .glo "check_level", .glo "halved", .glo "lines_of", .glo "crossing_of", .glo "_law_hand", .glo "_law_draw", .glo "_law_some", .glo "_law_key", .glo "_law_put_to", .glo "_law_added", .glo "_law_product", .glo "_law_size", .glo "_law_lead", .glo "_law_inverse", .glo "_law_plain", .glo "_law_dict", .glo "_law_clock", .glo "_law_level", .glo "_law_can_be_cut", .glo "_law_is_way", .glo "law", .glo "BagError", .exc "BagError", .glo "BadBag", .glo "UnlikeClocks", .exc "UnlikeClocks", .glo "NoNumber", .exc "NoNumber", .glo "IsNothing", .exc "IsNothing", .glo "NotLevel", .exc "NotLevel", .glo "Bag", .cls "Bag", .mkr "Bag", .meth "Bag" "__eq__", .noat "Bag" "clock", .noat "Bag" "words", .glo "CLOCKS", .str "LETTERS" "xyz", .int "MOST_WORDS" 300, .int "MOST_LETTERS" 12, .free "abs", .free "all", .free "any", .free "bool", .free "dict", .free "int", .free "isinstance", .free "len", .free "list", .free "max", .free "min", .free "range", .free "set", .free "sorted", .free "str", .free "tuple", .glo "INVERSES"]
def exl (K : PySem.W.Frag) : List Bool := [He.tupB K "CLOCKS" [.int 2, .int 3, .int 5, .int 7], decide (PySem.W.findIn K (.ref (He.ga K "Bag")) "__class__" = some (some (.builtin "object.__class__"))), decide (PySem.W.specialIn K (.builtin "object.__class__") "__get__" = some (some (.builtin "getset_descriptor.__get__"))), decide (PySem.W.takesIn K (.builtin "object.__class__") = some true), decide (PySem.W.mroIn K (He.ga K "Bag") (.type "object") = some true), decide (PySem.W.findIn K (.ref (He.ga K "Bag")) "__ne__" = some (some (.builtin "object.__ne__"))), decide (PySem.W.kitOne K (.ref (He.ga K "Bag")) (.ref (He.ga K "Bag")) = some true), PySem.W.notFirst K (He.ga K "Bag") (.type "NoneType"), decide (PySem.W.kitOne K (.type "NoneType") (.ref (He.ga K "Bag")) = some false), PySem.W.notFirst K (He.ga K "Bag") (.type "int"), decide (PySem.W.kitOne K (.type "int") (.ref (He.ga K "Bag")) = some false), PySem.W.notFirst K (He.ga K "Bag") (.type "bool"), decide (PySem.W.kitOne K (.type "bool") (.ref (He.ga K "Bag")) = some false), PySem.W.notFirst K (He.ga K "Bag") (.type "str"), decide (PySem.W.kitOne K (.type "str") (.ref (He.ga K "Bag")) = some false), PySem.W.notFirst K (He.ga K "Bag") (.type "dict"), decide (PySem.W.kitOne K (.type "dict") (.ref (He.ga K "Bag")) = some false), PySem.W.notFirst K (He.ga K "Bag") (.type "list"), decide (PySem.W.kitOne K (.type "list") (.ref (He.ga K "Bag")) = some false), PySem.W.notFirst K (He.ga K "Bag") (.type "tuple"), decide (PySem.W.kitOne K (.type "tuple") (.ref (He.ga K "Bag")) = some false), wdB K (He.ga K "INVERSES") [(2, [0, 1]), (3, [0, 1, 2]), (5, [0, 1, 3, 2, 4]), (7, [0, 1, 4, 5, 2, 3, 6])], decide (PySem.W.exmOne K (.ref (He.ga K "BagError")) (.ref (He.ga K "BagError")) = some true), decide (PySem.W.exmOne K (.ref (He.ga K "UnlikeClocks")) (.ref (He.ga K "UnlikeClocks")) = some true), decide (PySem.W.exmOne K (.ref (He.ga K "NoNumber")) (.ref (He.ga K "NoNumber")) = some true), decide (PySem.W.exmOne K (.ref (He.ga K "IsNothing")) (.ref (He.ga K "IsNothing")) = some true), decide (PySem.W.exmOne K (.ref (He.ga K "NotLevel")) (.ref (He.ga K "NotLevel")) = some true)]
def ex (K : PySem.W.Frag) : Bool := (exl K).all id
/-- what the top has left -/
structure Top (K : PySem.W.Frag) (mg : Str → Option Value) : Prop where
  h : ∃ h : Heap, K.In h ∧ h.Ns mainGlobals mg
  c : He.SaysD fa fn K
  e : ex K = true
section
variable {K : PySem.W.Frag} {mg : Str → Option Value}
theorem Top.x (T : Top K mg) (i : Nat) {b : Bool} (h : (exl K)[i]? = some b := by rfl) : b = true := by
  have := List.all_eq_true.mp T.e b (List.mem_of_getElem? h)
  exact this
theorem g_is_integer (T : Top K mg) : mg "is_integer" = some (.ref (He.ga K "is_integer")) := by
  obtain ⟨h, X, G⟩ := T.h
  exact He.glo_ok X G (T.c.fact 0 (f := .glo "is_integer") rfl)
theorem g_is_from_to (T : Top K mg) : mg "is_from_to" = some (.ref (He.ga K "is_from_to")) := by
  obtain ⟨h, X, G⟩ := T.h
  exact He.glo_ok X G (T.c.fact 1 (f := .glo "is_from_to") rfl)
theorem g_is_clock (T : Top K mg) : mg "is_clock" = some (.ref (He.ga K "is_clock")) := by
  obtain ⟨h, X, G⟩ := T.h
  exact He.glo_ok X G (T.c.fact 2 (f := .glo "is_clock") rfl)
theorem g_is_word (T : Top K mg) : mg "is_word" = some (.ref (He.ga K "is_word")) := by
  obtain ⟨h, X, G⟩ := T.h
  exact He.glo_ok X G (T.c.fact 3 (f := .glo "is_word") rfl)
theorem g_inverse (T : Top K mg) : mg "inverse" = some (.ref (He.ga K "inverse")) := by
  obtain ⟨h, X, G⟩ := T.h
  exact He.glo_ok X G (T.c.fact 4 (f := .glo "inverse") rfl)
theorem g_rank_of (T : Top K mg) : mg "rank_of" = some (.ref (He.ga K "rank_of")) := by
  obtain ⟨h, X, G⟩ := T.h
  exact He.glo_ok X G (T.c.fact 5 (f := .glo "rank_of") rfl)
theorem g_first_word (T : Top K mg) : mg "first_word" = some (.ref (He.ga K "first_word")) := by
  obtain ⟨h, X, G⟩ := T.h
  exact He.glo_ok X G (T.c.fact 6 (f := .glo "first_word") rfl)
theorem g_tidied (T : Top K mg) : mg "tidied" = some (.ref (He.ga K "tidied")) := by
  obtain ⟨h, X, G⟩ := T.h
  exact He.glo_ok X G (T.c.fact 7 (f := .glo "tidied") rfl)
theorem g_scaled (T : Top K mg) : mg "scaled" = some (.ref (He.ga K "scaled")) := by
  obtain ⟨h, X, G⟩ := T.h
  exact He.glo_ok X G (T.c.fact 8 (f := .glo "scaled") rfl)
theorem g_multiplied (T : Top K mg) : mg "multiplied" = some (.ref (He.ga K "multiplied")) := by
  obtain ⟨h, X, G⟩ := T.h
  exact He.glo_ok X G (T.c.fact 9 (f := .glo "multiplied") rfl)
theorem g_are_words (T : Top K mg) : mg "are_words" = some (.ref (He.ga K "are_words")) := by
  obtain ⟨h, X, G⟩ := T.h
  exact He.glo_ok X G (T.c.fact 10 (f := .glo "are_words") rfl)
theorem g_is_short_word (T : Top K mg) : mg "is_short_word" = some (.ref (He.ga K "is_short_word")) := by
  obtain ⟨h, X, G⟩ := T.h
  exact He.glo_ok X G (T.c.fact 11 (f := .glo "is_short_word") rfl)
theorem g_pairs_of (T : Top K mg) : mg "pairs_of" = some (.ref (He.ga K "pairs_of")) := by
  obtain ⟨h, X, G⟩ := T.h
  exact He.glo_ok X G (T.c.fact 12 (f := .glo "pairs_of") rfl)
theorem g_bag_of (T : Top K mg) : mg "bag_of" = some (.ref (He.ga K "bag_of")) := by
  obtain ⟨h, X, G⟩ := T.h
  exact He.glo_ok X G (T.c.fact 13 (f := .glo "bag_of") rfl)
theorem g_table_of (T : Top K mg) : mg "table_of" = some (.ref (He.ga K "table_of")) := by
  obtain ⟨h, X, G⟩ := T.h
  exact He.glo_ok X G (T.c.fact 14 (f := .glo "table_of") rfl)
theorem g_check_clocks (T : Top K mg) : mg "check_clocks" = some (.ref (He.ga K "check_clocks")) := by
  obtain ⟨h, X, G⟩ := T.h
  exact He.glo_ok X G (T.c.fact 15 (f := .glo "check_clocks") rfl)
theorem g_check_something (T : Top K mg) : mg "check_something" = some (.ref (He.ga K "check_something")) := by
  obtain ⟨h, X, G⟩ := T.h
  exact He.glo_ok X G (T.c.fact 16 (f := .glo "check_something") rfl)
theorem g_behind (T : Top K mg) : mg "behind" = some (.ref (He.ga K "behind")) := by
  obtain ⟨h, X, G⟩ := T.h
  exact He.glo_ok X G (T.c.fact 17 (f := .glo "behind") rfl)
theorem g_times (T : Top K mg) : mg "times" = some (.ref (He.ga K "times")) := by
  obtain ⟨h, X, G⟩ := T.h
  exact He.glo_ok X G (T.c.fact 18 (f := .glo "times") rfl)
theorem g_length (T : Top K mg) : mg "length" = some (.ref (He.ga K "length")) := by
  obtain ⟨h, X, G⟩ := T.h
  exact He.glo_ok X G (T.c.fact 19 (f := .glo "length") rfl)
theorem g_plain (T : Top K mg) : mg "plain" = some (.ref (He.ga K "plain")) := by
  obtain ⟨h, X, G⟩ := T.h
  exact He.glo_ok X G (T.c.fact 20 (f := .glo "plain") rfl)
theorem g_level_way (T : Top K mg) : mg "level_way" = some (.ref (He.ga K "level_way")) := by
  obtain ⟨h, X, G⟩ := T.h
  exact He.glo_ok X G (T.c.fact 21 (f := .glo "level_way") rfl)
theorem g_check_level (T : Top K mg) : mg "check_level" = some (.ref (He.ga K "check_level")) := by
  obtain ⟨h, X, G⟩ := T.h
  exact He.glo_ok X G (T.c.fact 22 (f := .glo "check_level") rfl)
theorem g_halved (T : Top K mg) : mg "halved" = some (.ref (He.ga K "halved")) := by
  obtain ⟨h, X, G⟩ := T.h
  exact He.glo_ok X G (T.c.fact 23 (f := .glo "halved") rfl)
theorem g_lines_of (T : Top K mg) : mg "lines_of" = some (.ref (He.ga K "lines_of")) := by
  obtain ⟨h, X, G⟩ := T.h
  exact He.glo_ok X G (T.c.fact 24 (f := .glo "lines_of") rfl)
theorem g_crossing_of (T : Top K mg) : mg "crossing_of" = some (.ref (He.ga K "crossing_of")) := by
  obtain ⟨h, X, G⟩ := T.h
  exact He.glo_ok X G (T.c.fact 25 (f := .glo "crossing_of") rfl)
theorem g__law_hand (T : Top K mg) : mg "_law_hand" = some (.ref (He.ga K "_law_hand")) := by
  obtain ⟨h, X, G⟩ := T.h
  exact He.glo_ok X G (T.c.fact 26 (f := .glo "_law_hand") rfl)
theorem g__law_draw (T : Top K mg) : mg "_law_draw" = some (.ref (He.ga K "_law_draw")) := by
  obtain ⟨h, X, G⟩ := T.h
  exact He.glo_ok X G (T.c.fact 27 (f := .glo "_law_draw") rfl)
theorem g__law_some (T : Top K mg) : mg "_law_some" = some (.ref (He.ga K "_law_some")) := by
  obtain ⟨h, X, G⟩ := T.h
  exact He.glo_ok X G (T.c.fact 28 (f := .glo "_law_some") rfl)
theorem g__law_key (T : Top K mg) : mg "_law_key" = some (.ref (He.ga K "_law_key")) := by
  obtain ⟨h, X, G⟩ := T.h
  exact He.glo_ok X G (T.c.fact 29 (f := .glo "_law_key") rfl)
theorem g__law_put_to (T : Top K mg) : mg "_law_put_to" = some (.ref (He.ga K "_law_put_to")) := by
  obtain ⟨h, X, G⟩ := T.h
  exact He.glo_ok X G (T.c.fact 30 (f := .glo "_law_put_to") rfl)
theorem g__law_added (T : Top K mg) : mg "_law_added" = some (.ref (He.ga K "_law_added")) := by
  obtain ⟨h, X, G⟩ := T.h
  exact He.glo_ok X G (T.c.fact 31 (f := .glo "_law_added") rfl)
theorem g__law_product (T : Top K mg) : mg "_law_product" = some (.ref (He.ga K "_law_product")) := by
  obtain ⟨h, X, G⟩ := T.h
  exact He.glo_ok X G (T.c.fact 32 (f := .glo "_law_product") rfl)
theorem g__law_size (T : Top K mg) : mg "_law_size" = some (.ref (He.ga K "_law_size")) := by
  obtain ⟨h, X, G⟩ := T.h
  exact He.glo_ok X G (T.c.fact 33 (f := .glo "_law_size") rfl)
theorem g__law_lead (T : Top K mg) : mg "_law_lead" = some (.ref (He.ga K "_law_lead")) := by
  obtain ⟨h, X, G⟩ := T.h
  exact He.glo_ok X G (T.c.fact 34 (f := .glo "_law_lead") rfl)
theorem g__law_inverse (T : Top K mg) : mg "_law_inverse" = some (.ref (He.ga K "_law_inverse")) := by
  obtain ⟨h, X, G⟩ := T.h
  exact He.glo_ok X G (T.c.fact 35 (f := .glo "_law_inverse") rfl)
theorem g__law_plain (T : Top K mg) : mg "_law_plain" = some (.ref (He.ga K "_law_plain")) := by
  obtain ⟨h, X, G⟩ := T.h
  exact He.glo_ok X G (T.c.fact 36 (f := .glo "_law_plain") rfl)
theorem g__law_dict (T : Top K mg) : mg "_law_dict" = some (.ref (He.ga K "_law_dict")) := by
  obtain ⟨h, X, G⟩ := T.h
  exact He.glo_ok X G (T.c.fact 37 (f := .glo "_law_dict") rfl)
theorem g__law_clock (T : Top K mg) : mg "_law_clock" = some (.ref (He.ga K "_law_clock")) := by
  obtain ⟨h, X, G⟩ := T.h
  exact He.glo_ok X G (T.c.fact 38 (f := .glo "_law_clock") rfl)
theorem g__law_level (T : Top K mg) : mg "_law_level" = some (.ref (He.ga K "_law_level")) := by
  obtain ⟨h, X, G⟩ := T.h
  exact He.glo_ok X G (T.c.fact 39 (f := .glo "_law_level") rfl)
theorem g__law_can_be_cut (T : Top K mg) : mg "_law_can_be_cut" = some (.ref (He.ga K "_law_can_be_cut")) := by
  obtain ⟨h, X, G⟩ := T.h
  exact He.glo_ok X G (T.c.fact 40 (f := .glo "_law_can_be_cut") rfl)
theorem g__law_is_way (T : Top K mg) : mg "_law_is_way" = some (.ref (He.ga K "_law_is_way")) := by
  obtain ⟨h, X, G⟩ := T.h
  exact He.glo_ok X G (T.c.fact 41 (f := .glo "_law_is_way") rfl)
theorem g_law (T : Top K mg) : mg "law" = some (.ref (He.ga K "law")) := by
  obtain ⟨h, X, G⟩ := T.h
  exact He.glo_ok X G (T.c.fact 42 (f := .glo "law") rfl)
theorem g_BagError (T : Top K mg) : mg "BagError" = some (.ref (He.ga K "BagError")) := by
  obtain ⟨h, X, G⟩ := T.h
  exact He.glo_ok X G (T.c.fact 43 (f := .glo "BagError") rfl)
theorem e_BagError (T : Top K mg) : PySem.W.excIn K (He.ga K "BagError") He.veBase "ValueError.__new__" = true ∧ PySem.W.keepIn K (.ref (He.ga K "BagError")) = true ∧ PySem.W.subIn K (.ref (He.ga K "BagError")) (.type "BaseException") = some true ∧ PySem.W.typeIn K (.ref (He.ga K "BagError")) = some (.type "type") := He.exc_ok (T.c.fact 44 (f := .exc "BagError") rfl)
theorem g_BadBag (T : Top K mg) : mg "BadBag" = some (.ref (He.ga K "BadBag")) := by
  obtain ⟨h, X, G⟩ := T.h
  exact He.glo_ok X G (T.c.fact 45 (f := .glo "BadBag") rfl)
theorem g_UnlikeClocks (T : Top K mg) : mg "UnlikeClocks" = some (.ref (He.ga K "UnlikeClocks")) := by
  obtain ⟨h, X, G⟩ := T.h
  exact He.glo_ok X G (T.c.fact 46 (f := .glo "UnlikeClocks") rfl)
theorem e_UnlikeClocks (T : Top K mg) : PySem.W.excIn K (He.ga K "UnlikeClocks") He.veBase "ValueError.__new__" = true ∧ PySem.W.keepIn K (.ref (He.ga K "UnlikeClocks")) = true ∧ PySem.W.subIn K (.ref (He.ga K "UnlikeClocks")) (.type "BaseException") = some true ∧ PySem.W.typeIn K (.ref (He.ga K "UnlikeClocks")) = some (.type "type") := He.exc_ok (T.c.fact 47 (f := .exc "UnlikeClocks") rfl)
theorem g_NoNumber (T : Top K mg) : mg "NoNumber" = some (.ref (He.ga K "NoNumber")) := by
  obtain ⟨h, X, G⟩ := T.h
  exact He.glo_ok X G (T.c.fact 48 (f := .glo "NoNumber") rfl)
theorem e_NoNumber (T : Top K mg) : PySem.W.excIn K (He.ga K "NoNumber") He.veBase "ValueError.__new__" = true ∧ PySem.W.keepIn K (.ref (He.ga K "NoNumber")) = true ∧ PySem.W.subIn K (.ref (He.ga K "NoNumber")) (.type "BaseException") = some true ∧ PySem.W.typeIn K (.ref (He.ga K "NoNumber")) = some (.type "type") := He.exc_ok (T.c.fact 49 (f := .exc "NoNumber") rfl)
theorem g_IsNothing (T : Top K mg) : mg "IsNothing" = some (.ref (He.ga K "IsNothing")) := by
  obtain ⟨h, X, G⟩ := T.h
  exact He.glo_ok X G (T.c.fact 50 (f := .glo "IsNothing") rfl)
theorem e_IsNothing (T : Top K mg) : PySem.W.excIn K (He.ga K "IsNothing") He.veBase "ValueError.__new__" = true ∧ PySem.W.keepIn K (.ref (He.ga K "IsNothing")) = true ∧ PySem.W.subIn K (.ref (He.ga K "IsNothing")) (.type "BaseException") = some true ∧ PySem.W.typeIn K (.ref (He.ga K "IsNothing")) = some (.type "type") := He.exc_ok (T.c.fact 51 (f := .exc "IsNothing") rfl)
theorem g_NotLevel (T : Top K mg) : mg "NotLevel" = some (.ref (He.ga K "NotLevel")) := by
  obtain ⟨h, X, G⟩ := T.h
  exact He.glo_ok X G (T.c.fact 52 (f := .glo "NotLevel") rfl)
theorem e_NotLevel (T : Top K mg) : PySem.W.excIn K (He.ga K "NotLevel") He.veBase "ValueError.__new__" = true ∧ PySem.W.keepIn K (.ref (He.ga K "NotLevel")) = true ∧ PySem.W.subIn K (.ref (He.ga K "NotLevel")) (.type "BaseException") = some true ∧ PySem.W.typeIn K (.ref (He.ga K "NotLevel")) = some (.type "type") := He.exc_ok (T.c.fact 53 (f := .exc "NotLevel") rfl)
theorem g_Bag (T : Top K mg) : mg "Bag" = some (.ref (He.ga K "Bag")) := by
  obtain ⟨h, X, G⟩ := T.h
  exact He.glo_ok X G (T.c.fact 54 (f := .glo "Bag") rfl)
theorem cls_Bag (T : Top K mg) : Cls K (He.ga K "Bag") := He.cls_ok (T.c.fact 55 (f := .cls "Bag") rfl)
theorem mk_Bag (T : Top K mg) : Mk K (He.ga K "Bag") (He.ma K (He.ga K "Bag") "__init__") := He.mkr_ok (T.c.fact 56 (f := .mkr "Bag") rfl)
theorem m_Bag___eq__ (T : Top K mg) : Meth K (He.ga K "Bag") "__eq__" (He.ma K (He.ga K "Bag") "__eq__") := He.meth_ok (T.c.fact 57 (f := .meth "Bag" "__eq__") rfl)
theorem na_Bag_clock (T : Top K mg) : NoAttr K (He.ga K "Bag") "clock" := He.noat_ok (T.c.fact 58 (f := .noat "Bag" "clock") rfl)
theorem na_Bag_words (T : Top K mg) : NoAttr K (He.ga K "Bag") "words" := He.noat_ok (T.c.fact 59 (f := .noat "Bag" "words") rfl)
theorem g_CLOCKS (T : Top K mg) : mg "CLOCKS" = some (.ref (He.ga K "CLOCKS")) := by
  obtain ⟨h, X, G⟩ := T.h
  exact He.glo_ok X G (T.c.fact 60 (f := .glo "CLOCKS") rfl)
theorem t_LETTERS (T : Top K mg) : ∃ t, mg "LETTERS" = some (.str "xyz" t) := by
  obtain ⟨h, X, G⟩ := T.h
  exact He.str_ok X G (T.c.fact 61 (f := .str "LETTERS" "xyz") rfl)
theorem i_MOST_WORDS (T : Top K mg) : ∃ t, mg "MOST_WORDS" = some (.int 300 t) := by
  obtain ⟨h, X, G⟩ := T.h
  exact He.int_ok X G (T.c.fact 62 (f := .int "MOST_WORDS" 300) rfl)
theorem i_MOST_LETTERS (T : Top K mg) : ∃ t, mg "MOST_LETTERS" = some (.int 12 t) := by
  obtain ⟨h, X, G⟩ := T.h
  exact He.int_ok X G (T.c.fact 63 (f := .int "MOST_LETTERS" 12) rfl)
theorem f_abs (T : Top K mg) : mg "abs" = none := by
  obtain ⟨h, X, G⟩ := T.h
  exact He.free_ok X G (T.c.fact 64 (f := .free "abs") rfl)
theorem f_all (T : Top K mg) : mg "all" = none := by
  obtain ⟨h, X, G⟩ := T.h
  exact He.free_ok X G (T.c.fact 65 (f := .free "all") rfl)
theorem f_any (T : Top K mg) : mg "any" = none := by
  obtain ⟨h, X, G⟩ := T.h
  exact He.free_ok X G (T.c.fact 66 (f := .free "any") rfl)
theorem f_bool (T : Top K mg) : mg "bool" = none := by
  obtain ⟨h, X, G⟩ := T.h
  exact He.free_ok X G (T.c.fact 67 (f := .free "bool") rfl)
theorem f_dict (T : Top K mg) : mg "dict" = none := by
  obtain ⟨h, X, G⟩ := T.h
  exact He.free_ok X G (T.c.fact 68 (f := .free "dict") rfl)
theorem f_int (T : Top K mg) : mg "int" = none := by
  obtain ⟨h, X, G⟩ := T.h
  exact He.free_ok X G (T.c.fact 69 (f := .free "int") rfl)
theorem f_isinstance (T : Top K mg) : mg "isinstance" = none := by
  obtain ⟨h, X, G⟩ := T.h
  exact He.free_ok X G (T.c.fact 70 (f := .free "isinstance") rfl)
theorem f_len (T : Top K mg) : mg "len" = none := by
  obtain ⟨h, X, G⟩ := T.h
  exact He.free_ok X G (T.c.fact 71 (f := .free "len") rfl)
theorem f_list (T : Top K mg) : mg "list" = none := by
  obtain ⟨h, X, G⟩ := T.h
  exact He.free_ok X G (T.c.fact 72 (f := .free "list") rfl)
theorem f_max (T : Top K mg) : mg "max" = none := by
  obtain ⟨h, X, G⟩ := T.h
  exact He.free_ok X G (T.c.fact 73 (f := .free "max") rfl)
theorem f_min (T : Top K mg) : mg "min" = none := by
  obtain ⟨h, X, G⟩ := T.h
  exact He.free_ok X G (T.c.fact 74 (f := .free "min") rfl)
theorem f_range (T : Top K mg) : mg "range" = none := by
  obtain ⟨h, X, G⟩ := T.h
  exact He.free_ok X G (T.c.fact 75 (f := .free "range") rfl)
theorem f_set (T : Top K mg) : mg "set" = none := by
  obtain ⟨h, X, G⟩ := T.h
  exact He.free_ok X G (T.c.fact 76 (f := .free "set") rfl)
theorem f_sorted (T : Top K mg) : mg "sorted" = none := by
  obtain ⟨h, X, G⟩ := T.h
  exact He.free_ok X G (T.c.fact 77 (f := .free "sorted") rfl)
theorem f_str (T : Top K mg) : mg "str" = none := by
  obtain ⟨h, X, G⟩ := T.h
  exact He.free_ok X G (T.c.fact 78 (f := .free "str") rfl)
theorem f_tuple (T : Top K mg) : mg "tuple" = none := by
  obtain ⟨h, X, G⟩ := T.h
  exact He.free_ok X G (T.c.fact 79 (f := .free "tuple") rfl)
theorem g_INVERSES (T : Top K mg) : mg "INVERSES" = some (.ref (He.ga K "INVERSES")) := by
  obtain ⟨h, X, G⟩ := T.h
  exact He.glo_ok X G (T.c.fact 80 (f := .glo "INVERSES") rfl)
theorem fn_is_integer (T : Top K mg) : ∃ fd, FnP K "is_integer" "is_integer" s_is_integer (He.fAd K ("is_integer", none)) fd := T.c.def_ 0 (d := d_is_integer) rfl
theorem fn_is_from_to (T : Top K mg) : ∃ fd, FnP K "is_from_to" "is_from_to" s_is_from_to (He.fAd K ("is_from_to", none)) fd := T.c.def_ 1 (d := d_is_from_to) rfl
theorem fn_is_clock (T : Top K mg) : ∃ fd, FnP K "is_clock" "is_clock" s_is_clock (He.fAd K ("is_clock", none)) fd := T.c.def_ 2 (d := d_is_clock) rfl
theorem fn_is_word (T : Top K mg) : ∃ fd, FnP K "is_word" "is_word" s_is_word (He.fAd K ("is_word", none)) fd := T.c.def_ 3 (d := d_is_word) rfl
theorem fn_inverse (T : Top K mg) : ∃ fd, FnP K "inverse" "inverse" s_inverse (He.fAd K ("inverse", none)) fd := T.c.def_ 4 (d := d_inverse) rfl
theorem fn_rank_of (T : Top K mg) : ∃ fd, FnP K "rank_of" "rank_of" s_rank_of (He.fAd K ("rank_of", none)) fd := T.c.def_ 5 (d := d_rank_of) rfl
theorem fn_first_word (T : Top K mg) : ∃ fd, FnP K "first_word" "first_word" s_first_word (He.fAd K ("first_word", none)) fd := T.c.def_ 6 (d := d_first_word) rfl
theorem fn_tidied (T : Top K mg) : ∃ fd, FnP K "tidied" "tidied" s_tidied (He.fAd K ("tidied", none)) fd := T.c.def_ 7 (d := d_tidied) rfl
theorem fn_scaled (T : Top K mg) : ∃ fd, FnP K "scaled" "scaled" s_scaled (He.fAd K ("scaled", none)) fd := T.c.def_ 8 (d := d_scaled) rfl
theorem fn_multiplied (T : Top K mg) : ∃ fd, FnP K "multiplied" "multiplied" s_multiplied (He.fAd K ("multiplied", none)) fd := T.c.def_ 9 (d := d_multiplied) rfl
theorem fn_Bag__init__ (T : Top K mg) : ∃ fd, FnP K "__init__" "Bag.__init__" s_Bag__init__ (He.fAd K ("Bag", some "__init__")) fd := T.c.def_ 10 (d := d_Bag__init__) rfl
theorem fn_Bag__eq__ (T : Top K mg) : ∃ fd, FnP K "__eq__" "Bag.__eq__" s_Bag__eq__ (He.fAd K ("Bag", some "__eq__")) fd := T.c.def_ 11 (d := d_Bag__eq__) rfl
theorem fn_are_words (T : Top K mg) : ∃ fd, FnP K "are_words" "are_words" s_are_words (He.fAd K ("are_words", none)) fd := T.c.def_ 12 (d := d_are_words) rfl
theorem fn_is_short_word (T : Top K mg) : ∃ fd, FnP K "is_short_word" "is_short_word" s_is_short_word (He.fAd K ("is_short_word", none)) fd := T.c.def_ 13 (d := d_is_short_word) rfl
theorem fn_pairs_of (T : Top K mg) : ∃ fd, FnP K "pairs_of" "pairs_of" s_pairs_of (He.fAd K ("pairs_of", none)) fd := T.c.def_ 14 (d := d_pairs_of) rfl
theorem fn_bag_of (T : Top K mg) : ∃ fd, FnP K "bag_of" "bag_of" s_bag_of (He.fAd K ("bag_of", none)) fd := T.c.def_ 15 (d := d_bag_of) rfl
theorem fn_table_of (T : Top K mg) : ∃ fd, FnP K "table_of" "table_of" s_table_of (He.fAd K ("table_of", none)) fd := T.c.def_ 16 (d := d_table_of) rfl
theorem fn_check_clocks (T : Top K mg) : ∃ fd, FnP K "check_clocks" "check_clocks" s_check_clocks (He.fAd K ("check_clocks", none)) fd := T.c.def_ 17 (d := d_check_clocks) rfl
theorem fn_check_something (T : Top K mg) : ∃ fd, FnP K "check_something" "check_something" s_check_something (He.fAd K ("check_something", none)) fd := T.c.def_ 18 (d := d_check_something) rfl
theorem fn_behind (T : Top K mg) : ∃ fd, FnP K "behind" "behind" s_behind (He.fAd K ("behind", none)) fd := T.c.def_ 19 (d := d_behind) rfl
theorem fn_times (T : Top K mg) : ∃ fd, FnP K "times" "times" s_times (He.fAd K ("times", none)) fd := T.c.def_ 20 (d := d_times) rfl
theorem fn_length (T : Top K mg) : ∃ fd, FnP K "length" "length" s_length (He.fAd K ("length", none)) fd := T.c.def_ 21 (d := d_length) rfl
theorem fn_plain (T : Top K mg) : ∃ fd, FnP K "plain" "plain" s_plain (He.fAd K ("plain", none)) fd := T.c.def_ 22 (d := d_plain) rfl
theorem fn_level_way (T : Top K mg) : ∃ fd, FnP K "level_way" "level_way" s_level_way (He.fAd K ("level_way", none)) fd := T.c.def_ 23 (d := d_level_way) rfl
theorem fn_check_level (T : Top K mg) : ∃ fd, FnP K "check_level" "check_level" s_check_level (He.fAd K ("check_level", none)) fd := T.c.def_ 24 (d := d_check_level) rfl
theorem fn_halved (T : Top K mg) : ∃ fd, FnP K "halved" "halved" s_halved (He.fAd K ("halved", none)) fd := T.c.def_ 25 (d := d_halved) rfl
theorem fn_lines_of (T : Top K mg) : ∃ fd, FnP K "lines_of" "lines_of" s_lines_of (He.fAd K ("lines_of", none)) fd := T.c.def_ 26 (d := d_lines_of) rfl
theorem fn_crossing_of (T : Top K mg) : ∃ fd, FnP K "crossing_of" "crossing_of" s_crossing_of (He.fAd K ("crossing_of", none)) fd := T.c.def_ 27 (d := d_crossing_of) rfl
theorem fn__law_hand (T : Top K mg) : ∃ fd, FnP K "_law_hand" "_law_hand" s__law_hand (He.fAd K ("_law_hand", none)) fd := T.c.def_ 28 (d := d__law_hand) rfl
theorem fn__law_draw (T : Top K mg) : ∃ fd, FnP K "_law_draw" "_law_draw" s__law_draw (He.fAd K ("_law_draw", none)) fd := T.c.def_ 29 (d := d__law_draw) rfl
theorem fn__law_some (T : Top K mg) : ∃ fd, FnP K "_law_some" "_law_some" s__law_some (He.fAd K ("_law_some", none)) fd := T.c.def_ 30 (d := d__law_some) rfl
theorem fn__law_key (T : Top K mg) : ∃ fd, FnP K "_law_key" "_law_key" s__law_key (He.fAd K ("_law_key", none)) fd := T.c.def_ 31 (d := d__law_key) rfl
theorem fn__law_put_to (T : Top K mg) : ∃ fd, FnP K "_law_put_to" "_law_put_to" s__law_put_to (He.fAd K ("_law_put_to", none)) fd := T.c.def_ 32 (d := d__law_put_to) rfl
theorem fn__law_added (T : Top K mg) : ∃ fd, FnP K "_law_added" "_law_added" s__law_added (He.fAd K ("_law_added", none)) fd := T.c.def_ 33 (d := d__law_added) rfl
theorem fn__law_product (T : Top K mg) : ∃ fd, FnP K "_law_product" "_law_product" s__law_product (He.fAd K ("_law_product", none)) fd := T.c.def_ 34 (d := d__law_product) rfl
theorem fn__law_size (T : Top K mg) : ∃ fd, FnP K "_law_size" "_law_size" s__law_size (He.fAd K ("_law_size", none)) fd := T.c.def_ 35 (d := d__law_size) rfl
theorem fn__law_lead (T : Top K mg) : ∃ fd, FnP K "_law_lead" "_law_lead" s__law_lead (He.fAd K ("_law_lead", none)) fd := T.c.def_ 36 (d := d__law_lead) rfl
theorem fn__law_inverse (T : Top K mg) : ∃ fd, FnP K "_law_inverse" "_law_inverse" s__law_inverse (He.fAd K ("_law_inverse", none)) fd := T.c.def_ 37 (d := d__law_inverse) rfl
theorem fn__law_plain (T : Top K mg) : ∃ fd, FnP K "_law_plain" "_law_plain" s__law_plain (He.fAd K ("_law_plain", none)) fd := T.c.def_ 38 (d := d__law_plain) rfl
theorem fn__law_dict (T : Top K mg) : ∃ fd, FnP K "_law_dict" "_law_dict" s__law_dict (He.fAd K ("_law_dict", none)) fd := T.c.def_ 39 (d := d__law_dict) rfl
theorem fn__law_clock (T : Top K mg) : ∃ fd, FnP K "_law_clock" "_law_clock" s__law_clock (He.fAd K ("_law_clock", none)) fd := T.c.def_ 40 (d := d__law_clock) rfl
theorem fn__law_level (T : Top K mg) : ∃ fd, FnP K "_law_level" "_law_level" s__law_level (He.fAd K ("_law_level", none)) fd := T.c.def_ 41 (d := d__law_level) rfl
theorem fn__law_can_be_cut (T : Top K mg) : ∃ fd, FnP K "_law_can_be_cut" "_law_can_be_cut" s__law_can_be_cut (He.fAd K ("_law_can_be_cut", none)) fd := T.c.def_ 42 (d := d__law_can_be_cut) rfl
theorem fn__law_is_way (T : Top K mg) : ∃ fd, FnP K "_law_is_way" "_law_is_way" s__law_is_way (He.fAd K ("_law_is_way", none)) fd := T.c.def_ 43 (d := d__law_is_way) rfl
theorem fn_law (T : Top K mg) : ∃ fd, FnP K "law" "law" s_law (He.fAd K ("law", none)) fd := T.c.def_ 44 (d := d_law) rfl
theorem x_CLOCKS (T : Top K mg) (H : Hp) : SqT K H (He.ga K "CLOCKS") [.int 2, .int 3, .int 5, .int 7] := He.tupB_ok (T.x 0) H
theorem x_class (T : Top K mg) : PySem.W.findIn K (.ref (He.ga K "Bag")) "__class__" = some (some (.builtin "object.__class__")) := of_decide_eq_true (T.x 1)
theorem x_get (T : Top K mg) : PySem.W.specialIn K (.builtin "object.__class__") "__get__" = some (some (.builtin "getset_descriptor.__get__")) := of_decide_eq_true (T.x 2)
theorem x_takes (T : Top K mg) : PySem.W.takesIn K (.builtin "object.__class__") = some true := of_decide_eq_true (T.x 3)
theorem x_mro (T : Top K mg) : PySem.W.mroIn K (He.ga K "Bag") (.type "object") = some true := of_decide_eq_true (T.x 4)
theorem x_ne (T : Top K mg) : PySem.W.findIn K (.ref (He.ga K "Bag")) "__ne__" = some (some (.builtin "object.__ne__")) := of_decide_eq_true (T.x 5)
theorem x_is (T : Top K mg) : PySem.W.kitOne K (.ref (He.ga K "Bag")) (.ref (He.ga K "Bag")) = some true := of_decide_eq_true (T.x 6)
theorem x_nf_NoneType (T : Top K mg) : PySem.W.notFirst K (He.ga K "Bag") (.type "NoneType") = true := T.x 7
theorem x_no_NoneType (T : Top K mg) : PySem.W.kitOne K (.type "NoneType") (.ref (He.ga K "Bag")) = some false := of_decide_eq_true (T.x 8)
theorem x_nf_int (T : Top K mg) : PySem.W.notFirst K (He.ga K "Bag") (.type "int") = true := T.x 9
theorem x_no_int (T : Top K mg) : PySem.W.kitOne K (.type "int") (.ref (He.ga K "Bag")) = some false := of_decide_eq_true (T.x 10)
theorem x_nf_bool (T : Top K mg) : PySem.W.notFirst K (He.ga K "Bag") (.type "bool") = true := T.x 11
theorem x_no_bool (T : Top K mg) : PySem.W.kitOne K (.type "bool") (.ref (He.ga K "Bag")) = some false := of_decide_eq_true (T.x 12)
theorem x_nf_str (T : Top K mg) : PySem.W.notFirst K (He.ga K "Bag") (.type "str") = true := T.x 13
theorem x_no_str (T : Top K mg) : PySem.W.kitOne K (.type "str") (.ref (He.ga K "Bag")) = some false := of_decide_eq_true (T.x 14)
theorem x_nf_dict (T : Top K mg) : PySem.W.notFirst K (He.ga K "Bag") (.type "dict") = true := T.x 15
theorem x_no_dict (T : Top K mg) : PySem.W.kitOne K (.type "dict") (.ref (He.ga K "Bag")) = some false := of_decide_eq_true (T.x 16)
theorem x_nf_list (T : Top K mg) : PySem.W.notFirst K (He.ga K "Bag") (.type "list") = true := T.x 17
theorem x_no_list (T : Top K mg) : PySem.W.kitOne K (.type "list") (.ref (He.ga K "Bag")) = some false := of_decide_eq_true (T.x 18)
theorem x_nf_tuple (T : Top K mg) : PySem.W.notFirst K (He.ga K "Bag") (.type "tuple") = true := T.x 19
theorem x_no_tuple (T : Top K mg) : PySem.W.kitOne K (.type "tuple") (.ref (He.ga K "Bag")) = some false := of_decide_eq_true (T.x 20)
theorem xm_BagError (T : Top K mg) : PySem.W.exmOne K (.ref (He.ga K "BagError")) (.ref (He.ga K "BagError")) = some true := of_decide_eq_true (T.x 22)
theorem xm_UnlikeClocks (T : Top K mg) : PySem.W.exmOne K (.ref (He.ga K "UnlikeClocks")) (.ref (He.ga K "UnlikeClocks")) = some true := of_decide_eq_true (T.x 23)
theorem xm_NoNumber (T : Top K mg) : PySem.W.exmOne K (.ref (He.ga K "NoNumber")) (.ref (He.ga K "NoNumber")) = some true := of_decide_eq_true (T.x 24)
theorem xm_IsNothing (T : Top K mg) : PySem.W.exmOne K (.ref (He.ga K "IsNothing")) (.ref (He.ga K "IsNothing")) = some true := of_decide_eq_true (T.x 25)
theorem xm_NotLevel (T : Top K mg) : PySem.W.exmOne K (.ref (He.ga K "NotLevel")) (.ref (He.ga K "NotLevel")) = some true := of_decide_eq_true (T.x 26)
theorem w_INVERSES (T : Top K mg) : wdB K (He.ga K "INVERSES") [(2, [0, 1]), (3, [0, 1, 2]), (5, [0, 1, 3, 2, 4]), (7, [0, 1, 4, 5, 2, 3, 6])] = true := T.x 21
end
end Fp

set_option Elab.async false
set_option linter.all false
set_option maxRecDepth 100000
set_option maxHeartbeats 2000000
namespace Fp
open PySem PySem.Spec PyProof.Rows L2
/-! ### words -/
def xyz (w : Str) : Prop := ∀ c ∈ w.cps.toList, c = 120 ∨ c = 121 ∨ c = 122
theorem tw_self {g : Nat → Bool} : ∀ {l : List Nat}, (∀ c ∈ l, g c = true) → l.takeWhile g = l
  | [], _ => rfl
  | c :: r, h => by
    rw [List.takeWhile_cons, if_pos (h c List.mem_cons_self), tw_self fun d hd => h d (List.mem_cons_of_mem _ hd)]
theorem strip_xyz {w : Str} (h : xyz w) : PySem.Txt.stripChars w "xyz" = (Str.ofString "") := by
  have hg : ∀ c ∈ w.cps.toList, (("xyz" : Str).cps.contains c) = true := fun c hc => by
    rcases h c hc with e | e | e <;> subst e <;> decide +kernel
  have ht : w.cps.toList.takeWhile ("xyz" : Str).cps.contains = w.cps.toList := tw_self hg
  have hlo : stripLo ("xyz" : Str).cps.contains true w = w.cps.toList.length := by
    unfold stripLo
    rw [if_pos rfl, ht]
  have hsz : w.length = w.cps.toList.length := by simp [Str.length]
  unfold PySem.Txt.stripChars PySem.Txt.stripBy
  cases e : stripSame ("xyz" : Str).cps.contains true true w with
  | true =>
    rw [if_pos rfl]
    unfold stripSame at e
    rw [hlo] at e
    simp only [Bool.and_eq_true, beq_iff_eq] at e
    have e0 : w.cps.toList = [] := List.length_eq_zero_iff.mp e.1
    obtain ⟨a⟩ := w
    have : a = #[] := by simpa using e0
    subst this
    rfl
  | false =>
    rw [if_neg Bool.false_ne_true]
    unfold stripped
    rw [hlo]
    have hhi : stripHi ("xyz" : Str).cps.contains true w w.cps.toList.length = w.length := by
      unfold stripHi
      rw [if_pos rfl, List.drop_length]
      simp
    rw [hhi, hsz]
    unfold Builtin.Str.strSub
    simp
    rfl
section
variable {P : Program} {w : World} {K : PySem.W.Frag} {mg : Str → Option Value} {base : Heap}
/-! ### kinds -/
def spInt : Sp := fun vs H Q _ => ∃ i : Int, vs = [.int i] ∧ Q (.bl true) H
theorem sc_is_integer : FnScope ["thing"] ["thing"] (defScope s_is_integer) := ⟨rfl, rfl, rfl, by decide +kernel, rfl, by decide +kernel, by decide +kernel⟩
theorem ok_is_integer (T : Top K mg) : Ok P w K mg base 1 "is_integer" ["thing"] spInt := by
  obtain ⟨fd, F⟩ := fn_is_integer T
  refine ⟨⟨fd, ?_, F.bindsN fun _ _ _ _ _ _ us hl => match us, hl with | [_], _ => rfl⟩, g_is_integer T, F.kp⟩
  refine F.ok sc_is_integer (fun vs H Q E h => ?_) (fun cdv A outer s H vs Q E hr h => ?_)
  · obtain ⟨i, rfl, _⟩ := h
    rfl
  · obtain ⟨i, rfl, q⟩ := h
    refine ⟨_, PSs.nox (pss_one (ps_ret (pe_and (pe_callB call_isi (by rfl) (f_isinstance T) (by decide +kernel) (pa_cons (pv 0) (pa_cons (pe_bltn (v := .ty "int") (by rfl) (f_int T) boot_int rfl) pa_nil)))
      (pe_one (pe_not (pe_callB call_isi (by rfl) (f_isinstance T) (by decide +kernel) (pa_cons (pv 0) (pa_cons (pe_bltn (v := .ty "bool") (by rfl) (f_bool T) (by decide +kernel) rfl) pa_nil)))))))), ?_⟩
    refine ⟨_, rfl, .int i, _, _, _, true, rfl, .ty "int", .base (.int i), kit_ty (by decide +kernel), true, rfl, iteT ?_⟩
    exact ⟨_, rfl, .int i, _, _, _, false, rfl, .ty "bool", .base (.int i), kit_ty (by decide +kernel), false, rfl, q⟩
def spFromTo : Sp := fun vs H Q _ => ∃ i lo hi : Int, vs = [.int i, .int lo, .int hi] ∧ Q (.bl (decide (lo ≤ i) && decide (i ≤ hi))) H
theorem sc_is_from_to : FnScope ["thing", "low", "high"] ["thing", "low", "high"] (defScope s_is_from_to) := ⟨rfl, rfl, rfl, by decide +kernel, rfl, by decide +kernel, by decide +kernel⟩
theorem ok_is_from_to (T : Top K mg) : Ok P w K mg base 2 "is_from_to" ["thing", "low", "high"] spFromTo := by
  obtain ⟨fd, F⟩ := fn_is_from_to T
  refine ⟨⟨fd, ?_, F.bindsN fun _ _ _ _ _ _ us hl => match us, hl with | [_, _, _], _ => rfl⟩, g_is_from_to T, F.kp⟩
  refine F.ok sc_is_from_to (fun vs H Q E h => ?_) (fun cdv A outer s H vs Q E hr h => ?_)
  · obtain ⟨i, lo, hi, rfl, _⟩ := h
    rfl
  · obtain ⟨i, lo, hi, rfl, q⟩ := h
    refine ⟨_, PSs.nox (pss_one (ps_ret (pe_and (pc (ok_is_integer T) hr (pa_cons (pv 0) pa_nil)) (pe_one (pe_chain op_le op_le (pv 1) (pv 0) (pv 2)))))), ?_⟩
    refine ⟨_, rfl, i, rfl, true, rfl, iteT ?_⟩
    refine ⟨_, rfl, _, rfl, _, _, rfl, rfl, _, rfl, ?_⟩
    by_cases h1 : lo ≤ i
    · rw [decide_eq_true h1] at q ⊢
      exact iteT ⟨_, rfl, _, _, rfl, rfl, q⟩
    · rw [decide_eq_false h1] at q ⊢
      exact iteF q
def isCk (c : Int) : Prop := c = 2 ∨ c = 3 ∨ c = 5 ∨ c = 7
def spClock : Sp := fun vs H Q _ => ∃ c : Int, vs = [.int c] ∧ isCk c ∧ Q (.bl true) H
theorem sc_is_clock : FnScope ["thing"] ["thing"] (defScope s_is_clock) := ⟨rfl, rfl, rfl, by decide +kernel, rfl, by decide +kernel, by decide +kernel⟩
theorem ok_is_clock (T : Top K mg) : Ok P w K mg base 2 "is_clock" ["thing"] spClock := by
  obtain ⟨fd, F⟩ := fn_is_clock T
  refine ⟨⟨fd, ?_, F.bindsN fun _ _ _ _ _ _ us hl => match us, hl with | [_], _ => rfl⟩, g_is_clock T, F.kp⟩
  refine F.ok sc_is_clock (fun vs H Q E h => ?_) (fun cdv A outer s H vs Q E hr h => ?_)
  · obtain ⟨i, rfl, _⟩ := h
    rfl
  · obtain ⟨c, rfl, hc, q⟩ := h
    refine ⟨_, PSs.nox (pss_one (ps_ret (pe_and (pc (ok_is_integer T) hr (pa_cons (pv 0) pa_nil)) (pe_one (pe_cmpR op_in_seq (pv 0) (pe_glob (v := .ref (He.ga K "CLOCKS")) rfl (g_CLOCKS T) rfl) (by rfl)))))), ?_⟩
    refine ⟨_, rfl, c, rfl, true, rfl, iteT ?_⟩
    refine ⟨_, rfl, _, _, rfl, .inr (x_CLOCKS T _), rfl, rfl, ?_⟩
    have e : (if false = true then !inV (V.int c) [.int 2, .int 3, .int 5, .int 7] else inV (V.int c) [.int 2, .int 3, .int 5, .int 7]) = true := by
      rcases hc with rfl | rfl | rfl | rfl <;> decide
    rw [e]
    exact q
def spWord : Sp := fun vs H Q _ => ∃ x : Str, vs = [.str x] ∧ xyz x ∧ x.length ≤ 1000000 ∧ Q (.bl true) H
theorem sc_is_word : FnScope ["thing"] ["thing"] (defScope s_is_word) := ⟨rfl, rfl, rfl, by decide +kernel, rfl, by decide +kernel, by decide +kernel⟩
theorem ok_is_word (T : Top K mg) : Ok P w K mg base 1 "is_word" ["thing"] spWord := by
  obtain ⟨fd, F⟩ := fn_is_word T
  obtain ⟨tk, hL⟩ := t_LETTERS T
  refine ⟨⟨fd, ?_, F.bindsN fun _ _ _ _ _ _ us hl => match us, hl with | [_], _ => rfl⟩, g_is_word T, F.kp⟩
  refine F.ok sc_is_word (fun vs H Q E h => ?_) (fun cdv A outer s H vs Q E hr h => ?_)
  · obtain ⟨i, rfl, _⟩ := h
    rfl
  · obtain ⟨x, rfl, hx, hl, q⟩ := h
    have hs : sizeLine = 16777216 := sizeLine_eq
    refine ⟨_, PSs.nox (pss_one (ps_ret (pe_and (pe_callB call_isi (by rfl) (f_isinstance T) (by decide +kernel) (pa_cons (pv 0) (pa_cons (pe_bltn (v := .ty "str") (by rfl) (f_str T) (by decide +kernel) rfl) pa_nil)))
      (pe_one (pe_cmpR op_eq (pe_m1 PySem.F.slot_str_strip PySem.F.type_str_strip mt_stripChars (pv 0) (pe_glob (v := .str "xyz") rfl hL ⟨_, rfl⟩)) pe_str (nomark _)))))), ?_⟩
    refine ⟨_, rfl, .str x, _, _, _, true, rfl, .ty "str", .base (.str x), kit_ty (by decide +kernel), true, rfl, iteT ?_⟩
    refine ⟨_, rfl, ⟨x, rfl⟩, x, _, rfl, rfl, by omega, rfl, ?_⟩
    rw [strip_xyz hx]
    exact q
def spShort : Sp := fun vs H Q _ => ∃ x : Str, vs = [.str x] ∧ xyz x ∧ x.length ≤ 12 ∧ Q (.bl true) H
theorem sc_is_short_word : FnScope ["thing"] ["thing"] (defScope s_is_short_word) := ⟨rfl, rfl, rfl, by decide +kernel, rfl, by decide +kernel, by decide +kernel⟩
theorem ok_is_short_word (T : Top K mg) : Ok P w K mg base 2 "is_short_word" ["thing"] spShort := by
  obtain ⟨fd, F⟩ := fn_is_short_word T
  obtain ⟨tk, hL⟩ := i_MOST_LETTERS T
  refine ⟨⟨fd, ?_, F.bindsN fun _ _ _ _ _ _ us hl => match us, hl with | [_], _ => rfl⟩, g_is_short_word T, F.kp⟩
  refine F.ok sc_is_short_word (fun vs H Q E h => ?_) (fun cdv A outer s H vs Q E hr h => ?_)
  · obtain ⟨i, rfl, _⟩ := h
    rfl
  · obtain ⟨x, rfl, hx, hl, q⟩ := h
    have hs : sizeLine = 16777216 := sizeLine_eq
    refine ⟨_, PSs.nox (pss_one (ps_ret (pe_and (pc (ok_is_word T) hr (pa_cons (pv 0) pa_nil)) (pe_one (pe_cmpR op_le (pe_callB call_len_str (by rfl) (f_len T) PySem.boot_len (pa_cons (pv 0) pa_nil)) (pe_glob (v := .int 12) rfl hL ⟨_, rfl⟩) (nomark _)))))), ?_⟩
    refine ⟨_, rfl, x, rfl, hx, by omega, true, rfl, iteT ?_⟩
    refine ⟨_, rfl, x, rfl, by omega, _, _, rfl, rfl, ?_⟩
    show Q (.bl (decide ((x.length : Int) ≤ 12))) H
    rw [decide_eq_true (show ((x.length : Int) ≤ 12) by omega)]
    exact q
end
end Fp

set_option Elab.async false
set_option linter.all false
set_option maxRecDepth 100000
set_option maxHeartbeats 2000000
namespace Fp
open PySem PySem.Spec PyProof.Rows L2
/-- a table that Bag lets: by the clock c, words of at most m letters, at most k of them -/
structure VT (c : Int) (m k : Nat) (l : Tb) : Prop where
  nd : Nd l
  nu : ∀ p ∈ l, 1 ≤ p.2 ∧ p.2 < c
  wd : ∀ p ∈ l, xyz p.1 ∧ p.1.length ≤ m
  ln : l.length ≤ k
theorem VT.mono {c : Int} {m k m' k' : Nat} {l : Tb} (h : VT c m k l) (hm : m ≤ m') (hk : k ≤ k') : VT c m' k' l :=
  ⟨h.nd, h.nu, fun p hp => ⟨(h.wd p hp).1, Nat.le_trans (h.wd p hp).2 hm⟩, Nat.le_trans h.ln hk⟩
theorem find_of {l : Tb} (h : Nd l) {i : Nat} {p : Str × Int} (e : l[i]? = some p) : (l.find? fun q => decide (q.1 = p.1)) = some p := by
  induction l generalizing i with
  | nil => simp at e
  | cons q r ih =>
    have h' : (q.1 :: r.map (·.1)).Nodup := h
    obtain ⟨h1, h2⟩ := List.nodup_cons.mp h'
    cases i with
    | zero =>
      have : q = p := by simpa using e
      subst this
      rw [List.find?_cons_of_pos (by simp)]
    | succ i =>
      have e' : r[i]? = some p := by simpa using e
      have hm : p ∈ r := List.mem_of_getElem? e'
      have hne : q.1 ≠ p.1 := fun z => h1 (z ▸ List.mem_map.mpr ⟨p, hm, rfl⟩)
      rw [List.find?_cons_of_neg (by simpa using hne)]
      exact ih h2 e'
theorem num_of {l : Tb} (h : Nd l) {i : Nat} {p : Str × Int} (e : l[i]? = some p) : num l p.1 = p.2 := by
  unfold num
  rw [find_of h e]
  rfl
theorem has_of {l : Tb} {i : Nat} {p : Str × Int} (e : l[i]? = some p) : has l p.1 = true := has_iff.mpr (List.mem_map.mpr ⟨p, List.mem_of_getElem? e, rfl⟩)
theorem kv_at {l : Tb} {i : Nat} {k : Key} {v : V} (e : (kv l)[i]? = some (k, v)) : ∃ p, l[i]? = some p ∧ k = Sum.inr p.1 ∧ v = .int p.2 := by
  unfold kv at e
  rw [List.getElem?_map] at e
  cases q : l[i]? with
  | none => rw [q] at e; cases e
  | some p =>
    rw [q] at e
    have e2 := Option.some.inj e
    injection e2 with e3 e4
    exact ⟨p, rfl, e3.symm, e4.symm⟩
section
variable {P : Program} {w : World} {K : PySem.W.Frag} {mg : Str → Option Value} {base : Heap}
def spAreWords : Sp := fun vs H Q _ => ∃ (c : Int) (d : Addr) (l : Tb), vs = [.int c, .ref d] ∧ H d = some (.dK (kv l)) ∧ VT c 12 300 l ∧ ∀ H', Same H H' → Q (.bl true) H'
abbrev nAreWords : List Str := ["clock", "thing", "word"]
theorem sc_are_words : FnScope nAreWords ["clock", "thing"] (defScope s_are_words) := ⟨rfl, rfl, rfl, by decide +kernel, rfl, by decide +kernel, by decide +kernel⟩
theorem ok_are_words (T : Top K mg) : Ok P w K mg base 4 "are_words" ["clock", "thing"] spAreWords := by
  obtain ⟨fd, F⟩ := fn_are_words T
  obtain ⟨tk, hL⟩ := i_MOST_WORDS T
  refine ⟨⟨fd, ?_, F.bindsN fun _ _ _ _ _ _ us hl => match us, hl with | [_, _], _ => rfl⟩, g_are_words T, F.kp⟩
  refine F.ok sc_are_words (fun vs H Q E h => ?_) (fun cdv A outer s H vs Q E hr h => ?_)
  · obtain ⟨c, d, l, rfl, _⟩ := h
    rfl
  · obtain ⟨c, d, l, rfl, hd, hv, q⟩ := h
    have hu := hu_of hr
    have nd := sc_are_words.nd
    have hr2 : Room 2 _ := hr.mono (by decide)
    have hs : sizeLine = 16777216 := sizeLine_eq
    have hln := hv.ln
    refine ⟨_, PSs.nox (pss_cons (ps_if (PW.pt (pw_or (pt_not (pt_val (pe_callB call_isi (by rfl) (f_isinstance T) (by decide +kernel) (pa_cons (pv 1) (pa_cons (pe_bltn (v := .ty "dict") (by rfl) (f_dict T) (by decide +kernel) rfl) pa_nil)))))
        (pw_or1 (pt_cmpR op_gt (pe_callB call_lenD (by rfl) (f_len T) PySem.boot_len (pa_cons (pv 1) pa_nil)) (pe_glob (v := .int 300) rfl hL ⟨_, rfl⟩) (nomark _))))) (pss_one (ps_ret pe_bl)) pss_nil)
      (pss_one (ps_ret (pe_callB (cr_all rfl) (by rfl) (f_all T) (by decide +kernel) (pa_cons (pe_lock (pe_lc (own := [("word", 2)]) (g := gName 2) (tt := tYes) rfl nd (pi_keys (pv 1)) (blkOk_by (N := nAreWords) (sc := defScope s_are_words) (by decide +kernel))
        (fun _ _ _ _ _ => pg_name (i := 2) nd rfl (Or.inl rfl)) (fun _ _ _ _ _ => pts_nil)
        (fun _ _ _ _ _ => pe_and (pc (ok_is_short_word T) hr2 (pa_cons (pv 2) pa_nil)) (pe_one (pc (ok_is_from_to T) hr2 (pa_cons (pe_dget hu (pv 1) (pv 2) (fun _ _ => rfl)) (pa_cons pe_int (pa_cons (pe_op op_sub (pv 0) pe_int) pa_nil)))))))) pa_nil))))), ?_⟩
    refine ⟨_, rfl, .ref d, _, _, _, true, rfl, .ty "dict", .base (.dK hd), kit_ty (by decide +kernel), true, rfl, iteF ?_⟩
    refine ⟨_, rfl, d, _, rfl, hd, _, _, rfl, rfl, _, rfl, ?_⟩
    rw [show decide ((300 : Int) < ((kv l).length : Int)) = false by
      rw [kv_len]
      exact decide_eq_false (by omega)]
    refine iteF ?_
    refine ⟨d, _, hd, trivial, fun od => ?_⟩
    refine ⟨_, rfl, d, od, rfl, .inl ⟨kv l, upd_same, fun D hD => ?_⟩⟩
    have nD : D ≠ d := fun e => by
      rw [e, upd_same] at hD
      cases hD
    refine lc_it walk_keys (fun i H' => H' D = some (.lst ((List.replicate i true).map V.bl)) ∧ But d H H' ∧ H' d = some (.frz od (.dK (kv l)))) ⟨upd_same, ?_, ?_⟩ (fun i H' _ hP => hP.2.2) ?_ ?_
    · intro b o e n
      have nb : b ≠ D := by
        rintro rfl
        rw [upd_ne n, e] at hD
        cases hD
      rw [upd_ne nb, upd_ne n]
      exact e
    · rw [upd_ne nD.symm]
      exact upd_same
    · rintro i x H1 H2 hi ⟨p1, p2, p3⟩ ⟨rfl, k, v, e, rfl⟩
      obtain ⟨p, ep, rfl, rfl⟩ := kv_at e
      have hp : p ∈ l := List.mem_of_getElem? ep
      rw [kv_len] at hi
      refine ⟨rfl, ?_⟩
      refine ⟨_, rfl, p.1, rfl, (hv.wd p hp).1, (hv.wd p hp).2, true, rfl, iteT ?_⟩
      refine ⟨_, rfl, _, rfl, d, .int p.2, rfl, .inl ⟨kv l, Sum.inr p.1, .inr ⟨od, p3⟩, rfl, ?_⟩, ?_⟩
      · rw [valV_yes (has_of ep), num_of hv.nd ep]
      · refine ⟨_, rfl, _, _, rfl, rfl, p.2, 1, c - 1, rfl, ?_⟩
        have hn := hv.nu p hp
        rw [decide_eq_true (show (1 : Int) ≤ p.2 from hn.1), decide_eq_true (show p.2 ≤ c - 1 by omega)]
        refine ⟨_, p1, ?_, ?_, ?_, ?_⟩
        · rw [List.length_map, List.length_replicate]
          omega
        · rw [upd_same, List.replicate_succ', List.map_append]
          rfl
        · intro b o e n
          have nb : b ≠ D := by
            rintro rfl
            rw [upd_ne n, e] at hD
            cases hD
          rw [upd_ne nb]
          exact p2 b o e n
        · rw [upd_ne nD.symm]
          exact p3
    · rintro H' ⟨p1, p2, p3⟩
      refine ⟨p3, D, List.replicate (kv l).length true, rfl, .inl (.inl ?_), ?_⟩
      · rw [upd_ne nD]
        exact p1
      · have e1 : (List.replicate (kv l).length true).all id = true := by
          rw [List.all_eq_true]
          intro b hb
          exact (List.mem_replicate.mp hb).2
        rw [e1]
        refine q _ fun b o e => ?_
        by_cases n : b = d
        · rw [n, upd_same, ← hd, ← n, e]
        · rw [upd_ne n]
          exact p2 b o e n
end
end Fp

set_option Elab.async false
set_option linter.all false
set_option maxRecDepth 100000
set_option maxHeartbeats 2000000
namespace L2
open PySem PySem.Spec PyProof.Rows
section
variable {X : Cx}
def rEqP (K : PySem.W.Frag) : R2 := fun x y H Q => ∃ d e, Dp K H x d ∧ Dp K H y e ∧ d.plain = true ∧ e.plain = true ∧ d.depth ≤ 64 ∧ Q (.bl (PyData.eqv d e)) H
theorem op_eqP (hu : X.A.units + 64 < cLine) : OpR X (compareOp .Eq) (rEqP X.K) := by
  intro pins s σ H x y v u Q I rx ry h
  obtain ⟨d, e, hd, he, sd, se, hdp, q⟩ := h
  obtain ⟨as, r1⟩ := Dp.reads I d x v hd rx
  obtain ⟨bs, r2⟩ := Dp.reads I e y u he ry
  exact SeqAt.eq_plain r1 r2 sd se (by omega) ⟨.bl _, H, I, rfl, q⟩
end
end L2
namespace Fp
open PySem PySem.Spec PyProof.Rows L2
/-! ### the tuple of pairs -/
def WordsAt (H : Hp) (t : Addr) (L : Tb) : Prop := ∃ (ps : List Addr) (o : Obj), H t = some (.frz o (.tup (ps.map V.ref))) ∧ PlainTup o ∧ Paired (fun p (q : Str × Int) => H p = some (.tup [.str q.1, .int q.2])) ps L
theorem WordsAt.but {a : Addr} {H H' : Hp} {t : Addr} {L : Tb} (h : WordsAt H t L) (k : But a H H') (ht : t ≠ a) (ha : ∀ xs, H a ≠ some (.tup xs)) : WordsAt H' t L := by
  obtain ⟨ps, o, h1, h2, h3⟩ := h
  exact ⟨ps, o, k _ _ h1 ht, h2, Paired.mapP h3 fun p q e => k _ _ e fun z => ha _ (z ▸ e)⟩
theorem WordsAt.same {H H' : Hp} {t : Addr} {L : Tb} (h : WordsAt H t L) (k : Same H H') : WordsAt H' t L := by
  obtain ⟨ps, o, h1, h2, h3⟩ := h
  exact ⟨ps, o, k _ _ h1, h2, Paired.mapP h3 fun p q e => k _ _ e⟩
/-- a table in the order of words -/
def ordW (l : Tb) : List Str := (l.map (·.1)).mergeSort leR
def canon (l : Tb) : Tb := (ordW l).map fun x => (x, num l x)
theorem ordW_len (l : Tb) : (ordW l).length = l.length := by
  unfold ordW
  rw [List.length_mergeSort, List.length_map]
theorem ordW_mem {l : Tb} {x : Str} : x ∈ ordW l ↔ x ∈ l.map (·.1) := by
  unfold ordW
  exact (List.mergeSort_perm _ _).mem_iff
/-- what a Bag is -/
def flds (c : Int) (t : Addr) : List (Str × V) := putF "words" (.ref t) (putF "clock" (.int c) [])
theorem kwc : ¬ (("clock" : Str) = "words") := by decide +kernel
theorem flds_eq (c : Int) (t : Addr) : flds c t = ([("clock", V.int c), ("words", V.ref t)] : List (Str × V)) := by
  show (if ("clock" : Str) = "words" then [(("words" : Str), V.ref t)] else (("clock" : Str), V.int c) :: putF "words" (.ref t) []) = _
  rw [if_neg kwc]
  all_goals rfl
theorem flds_clock (c : Int) (t : Addr) : (flds c t).lookup ("clock" : Str) = some (.int c) := by
  unfold flds
  rw [lookup_putF, if_neg kwc, lookup_putF, if_pos rfl]
theorem flds_words (c : Int) (t : Addr) : (flds c t).lookup ("words" : Str) = some (.ref t) := by
  unfold flds
  rw [lookup_putF, if_pos rfl]
def BagAt (K : PySem.W.Frag) (H : Hp) (b : Addr) (c : Int) (L : Tb) : Prop := ∃ dx t, H b = some (.ins (He.ga K "Bag") dx (flds c t)) ∧ WordsAt H t L
theorem BagAt.same {K : PySem.W.Frag} {H H' : Hp} {b : Addr} {c : Int} {L : Tb} (h : BagAt K H b c L) (k : Same H H') : BagAt K H' b c L := by
  obtain ⟨dx, t, h1, h2⟩ := h
  exact ⟨dx, t, k _ _ h1, h2.same k⟩
theorem BagAt.but {K : PySem.W.Frag} {a : Addr} {H H' : Hp} {b : Addr} {c : Int} {L : Tb} (h : BagAt K H b c L) (k : But a H H') (ha : ∃ xs, H a = some (.lst xs)) : BagAt K H' b c L := by
  obtain ⟨dx, t, h1, h2⟩ := h
  obtain ⟨xs, hx⟩ := ha
  obtain ⟨ps, o, e1, e2⟩ := id h2
  exact ⟨dx, t, k _ _ h1 (ne_of h1 hx (by intro z; cases z)), h2.but k (ne_of e1 hx (by intro z; cases z)) fun ys => by rw [hx]; intro z; cases z⟩
def dW (L : Tb) : PyData := .tuple (L.map fun p => .tuple [.str p.1, .int p.2])
theorem dp_words {K : PySem.W.Frag} {H : Hp} {t : Addr} {L : Tb} (h : WordsAt H t L) : Dp K H (.ref t) (dW L) := by
  obtain ⟨ps, o, h1, _, h3⟩ := h
  refine .tup (.inl (.inr ⟨o, h1⟩)) ?_
  clear h1
  induction h3 with
  | nil => exact .nil
  | cons e _ ih => exact .cons (.tup (.inl (.inl e)) (.cons (.str _) (.cons (.int _) .nil))) ih
theorem dW_plain (L : Tb) : (dW L).plain = true := by
  show PyData.plainAll (L.map fun p => .tuple [.str p.1, .int p.2]) = true
  induction L with
  | nil => rfl
  | cons p r ih =>
    rw [List.map_cons]
    simp only [PyData.plainAll, PyData.plain, Bool.and_self, Bool.true_and]
    exact ih
theorem dW_depth (L : Tb) : (dW L).depth ≤ 64 := by
  have h : PyData.depthAll (L.map fun p => PyData.tuple [.str p.1, .int p.2]) ≤ 3 := by
    induction L with
    | nil => simp [PyData.depthAll]
    | cons p r ih =>
      rw [List.map_cons]
      simp only [PyData.depthAll, PyData.depth]
      have : max 0 (max 0 0) = 0 := rfl
      omega
  show (PyData.tuple _).depth ≤ 64
  simp only [PyData.depth]
  omega
theorem dW_eqv : ∀ L M : Tb, PyData.eqv (dW L) (dW M) = decide (L = M) := by
  intro L M
  show PyData.eqvAll (L.map fun p => PyData.tuple [.str p.1, .int p.2]) (M.map fun p => PyData.tuple [.str p.1, .int p.2]) = decide (L = M)
  induction L generalizing M with
  | nil =>
    cases M with
    | nil => rfl
    | cons q s => simp [PyData.eqvAll]
  | cons p r ih =>
    cases M with
    | nil => simp [PyData.eqvAll]
    | cons q s =>
      rw [List.map_cons, List.map_cons]
      simp only [PyData.eqvAll, PyData.eqv, ih s]
      obtain ⟨x, n⟩ := p
      obtain ⟨y, m⟩ := q
      by_cases h1 : x = y <;> by_cases h2 : n = m <;> by_cases h3 : r = s <;> simp [h1, h2, h3]
section
variable {P : Program} {w : World} {K : PySem.W.Frag} {mg : Str → Option Value} {base : Heap}
def spPairs : Sp := fun vs H Q _ => ∃ (d : Addr) (l : Tb), vs = [.ref d] ∧ H d = some (.dK (kv l)) ∧ Nd l ∧ (∀ p ∈ l, p.1.length ≤ 1000000) ∧ l.length ≤ 1000000 ∧ ∀ H' t, Same H H' → H t = none → WordsAt H' t (canon l) → Q (.ref t) H'
abbrev nPairs : List Str := ["table", "word"]
theorem sc_pairs_of : FnScope nPairs ["table"] (defScope s_pairs_of) := ⟨rfl, rfl, rfl, by decide +kernel, rfl, by decide +kernel, by decide +kernel⟩
theorem ok_pairs_of (T : Top K mg) : Ok P w K mg base 2 "pairs_of" ["table"] spPairs := by
  obtain ⟨fd, F⟩ := fn_pairs_of T
  obtain ⟨fdR, FR⟩ := fn_rank_of T
  refine ⟨⟨fd, ?_, F.bindsN fun _ _ _ _ _ _ us hl => match us, hl with | [_], _ => rfl⟩, g_pairs_of T, F.kp⟩
  refine F.ok sc_pairs_of (fun vs H Q E h => ?_) (fun cdv A outer s H vs Q E hr h => ?_)
  · obtain ⟨d, l, rfl, _⟩ := h
    rfl
  · obtain ⟨d, l, rfl, hd, hnd, hwl, hll, q⟩ := h
    have hu := hu_of hr
    have nd := sc_pairs_of.nd
    have hs : sizeLine = 16777216 := sizeLine_eq
    refine ⟨_, PSs.nox (pss_one (ps_ret (pe_callTy call_tupleF (by rfl) (f_tuple T) (by decide +kernel) (pa_cons (pe_lc (own := [("word", 1)]) (g := gName 1) (tt := tYes) rfl nd
      (pi_list (pe_callBK (cr_sortRk rfl FR (f_len T) hr) (by rfl) (f_sorted T) (by decide +kernel) (pa_cons (pv 0) pa_nil) (pk_cons (pe_glob (v := .ref (He.ga K "rank_of")) rfl (g_rank_of T) rfl) pk_nil)))
      (blkOk_by (N := nPairs) (sc := defScope s_pairs_of) (by decide +kernel)) (fun _ _ _ _ _ => pg_name (i := 1) nd rfl (Or.inl rfl)) (fun _ _ _ _ _ => pts_nil)
      (fun _ _ _ _ _ => pe_tup (pa_cons (pv 1) (pa_cons (pe_dget hu (pv 0) (pv 1) (fun _ _ => rfl)) pa_nil)))) pa_nil)))), ?_⟩
    refine ⟨_, rfl, d, kv l, l.map (·.1), rfl, rfl, .inl hd, kv_keys l, ?_, fun S hS => ?_⟩
    · intro x hx
      obtain ⟨p, hp, rfl⟩ := List.mem_map.mp hx
      have := hwl p hp
      omega
    · refine ⟨S, rfl, ⟨_, .inl (.inl upd_same)⟩, fun D hD => ?_⟩
      have nDS : D ≠ S := fun e => by
        rw [e, upd_same] at hD
        cases hD
      have hD0 : H D = none := by
        rw [upd_ne nDS] at hD
        exact hD
      have nSd : d ≠ S := ne_of_none hd hS
      have nDd : d ≠ D := ne_of_none hd hD0
      refine lc_it (walk_list (xs := (ordW l).map V.str)) (fun i H' => ∃ ps : List Addr, H' D = some (.lst (ps.map V.ref)) ∧ ps.length = i ∧ Paired (fun p (q : Str × Int) => H' p = some (.tup [.str q.1, .int q.2])) ps ((canon l).take i) ∧ Same H H' ∧ H' S = some (.lst ((ordW l).map V.str)))
        ⟨[], upd_same, rfl, .nil, ?_, ?_⟩ (fun i H' _ hP => .inl (.inl hP.choose_spec.2.2.2.2)) ?_ ?_
      · intro b o e
        rw [upd_ne (ne_of_none e hD0), upd_ne (ne_of_none e hS)]
        exact e
      · rw [upd_ne nDS.symm]
        exact upd_same
      · rintro i x H1 H2 hi ⟨ps, p1, p2, p3, p4, p5⟩ ⟨rfl, e⟩
        rw [List.length_map, ordW_len] at hi
        rw [List.getElem?_map] at e
        cases ew : (ordW l)[i]? with
        | none => rw [ew] at e; cases e
        | some x0 =>
          rw [ew] at e
          have e2 : V.str x0 = x := Option.some.inj e
          subst e2
          have hx0 : x0 ∈ l.map (·.1) := ordW_mem.mp (List.mem_of_getElem? ew)
          refine ⟨rfl, ?_⟩
          refine ⟨_, rfl, _, rfl, _, rfl, d, .int (num l x0), rfl, .inl ⟨kv l, Sum.inr x0, .inl (p4 _ _ hd), rfl, (valV_yes (has_iff.mpr hx0)).symm⟩, ?_⟩
          refine ⟨by show 2 ≤ sizeLine; omega, fun p hp => ?_⟩
          have npD : D ≠ p := ne_of_none p1 hp
          have npS : S ≠ p := ne_of_none p5 hp
          refine ⟨ps.map V.ref, ?_, ?_, ps ++ [p], ?_, ?_, ?_, ?_, ?_⟩
          · rw [upd_ne npD]
            exact p1
          · rw [List.length_map]
            omega
          · rw [upd_same, List.map_append]
            rfl
          · rw [List.length_append, p2]
            rfl
          · have ec : (canon l).take (i + 1) = (canon l).take i ++ [(x0, num l x0)] := by
              rw [List.take_add_one]
              unfold canon
              rw [List.getElem?_map, ew]
              rfl
            rw [ec]
            refine Paired.snoc (Paired.mapP p3 fun a b z => ?_) ?_
            · have na : a ≠ D := ne_of z p1 (by intro y; cases y)
              rw [upd_ne na, upd_ne (ne_of_none z hp)]
              exact z
            · rw [upd_ne npD.symm]
              exact upd_same
          · intro b o z
            have nb : b ≠ D := ne_of_none z hD0
            rw [upd_ne nb, upd_ne (ne_of_none (p4 b o z) hp)]
            exact p4 b o z
          · rw [upd_ne nDS.symm, upd_ne npS]
            exact p5
      · rintro H' ⟨ps, p1, p2, p3, p4, p5⟩
        have en : ((ordW l).map V.str).length = (canon l).length := by
          unfold canon
          rw [List.length_map, List.length_map]
        rw [en, List.take_length] at p3
        refine ⟨D, ps.map V.ref, rfl, .inl (.inl p1), fun t o ht hpt => ?_⟩
        have ht0 : H t = none := by
          cases z : H t with
          | none => rfl
          | some u =>
            rw [p4 t u z] at ht
            cases ht
        refine q _ t (p4.trans (same_upd ht)) ht0 ⟨ps, o, upd_same, hpt, Paired.mapP p3 fun a b z => ?_⟩
        rw [upd_ne (ne_of_none z ht)]
        exact z
end
end Fp

set_option Elab.async false
set_option linter.all false
set_option maxRecDepth 100000
set_option maxHeartbeats 2000000
namespace Fp
open PySem PySem.Spec PyProof.Rows L2
section
variable {P : Program} {w : World} {K : PySem.W.Frag} {mg : Str → Option Value} {base : Heap}
def spInit (K : PySem.W.Frag) : Sp := fun vs H Q _ => ∃ (b d dx : Addr) (c : Int) (l : Tb), vs = [.ref b, .int c, .ref d] ∧ H b = some (.ins (He.ga K "Bag") dx []) ∧ isCk c ∧ H d = some (.dK (kv l)) ∧ VT c 12 300 l ∧
  ∀ H', But b H H' → BagAt K H' b c (canon l) → Q .non H'
abbrev nInit : List Str := ["self", "clock", "words"]
theorem sc_init : FnScope nInit nInit (defScope s_Bag__init__) := ⟨rfl, rfl, rfl, by decide +kernel, rfl, by decide +kernel, by decide +kernel⟩
theorem ok_init (T : Top K mg) : ∃ fd, FnOk P w K mg base CX0 5 (He.ma K (He.ga K "Bag") "__init__") fd nInit (spInit K) ∧ Binds K fd nInit [] := by
  obtain ⟨fd, F⟩ := fn_Bag__init__ T
  refine ⟨fd, ?_, F.bindsN fun _ _ _ _ _ _ us hl => match us, hl with | [_, _, _], _ => rfl⟩
  refine F.ok sc_init (fun vs H Q E h => ?_) (fun cdv A outer s H vs Q E hr h => ?_)
  · obtain ⟨b, d, dx, c, l, rfl, _⟩ := h
    rfl
  · obtain ⟨b, d, dx, c, l, rfl, hb, hc, hd, hv, q⟩ := h
    have hr2 : Room 2 _ := hr.mono (by decide)
    refine ⟨_, PSs.nox (pss_cons (ps_if (pt_not (pt_val (pc (ok_is_clock T) hr2 (pa_cons (pv 1) pa_nil)))) (pss_one ps_never) pss_nil)
      (pss_cons (ps_if (pt_not (pt_val (pc (ok_are_words T) hr (pa_cons (pv 1) (pa_cons (pv 2) pa_nil))))) (pss_one ps_never) pss_nil)
      (pss_cons (ps_fld (pv 0) (pv 1) rfl)
      (pss_one (ps_fld (pv 0) (pc (ok_pairs_of T) hr2 (pa_cons (pv 2) pa_nil)) rfl))))), ?_⟩
    refine ⟨_, rfl, c, rfl, hc, true, rfl, iteF ?_⟩
    refine ⟨_, rfl, _, rfl, c, d, l, rfl, hd, hv, fun H1 s1 => ⟨true, rfl, iteF ?_⟩⟩
    have nbd : b ≠ d := ne_of hb hd (by intro z; cases z)
    refine ⟨_, rfl, _, rfl, b, _, dx, [], rfl, s1 _ _ hb, cls_Bag T, na_Bag_clock T, by show 0 < 1000; decide, ?_⟩
    refine ⟨_, rfl, d, l, rfl, ?_, hv.nd, fun p hp => Nat.le_trans (hv.wd p hp).2 (by decide), Nat.le_trans hv.ln (by decide), fun H2 t s2 ht hw => ?_⟩
    · rw [upd_ne nbd.symm]
      exact s1 _ _ hd
    refine ⟨_, rfl, b, _, dx, _, rfl, s2 _ _ upd_same, cls_Bag T, na_Bag_words T, by show 1 < 1000; decide, ?_⟩
    have nt : t ≠ b := fun e => by
      rw [e, upd_same] at ht
      cases ht
    refine q _ (fun y o e n => ?_) ⟨dx, t, upd_same, ?_⟩
    · rw [upd_ne n]
      refine s2 _ _ ?_
      rw [upd_ne n]
      exact s1 _ _ e
    · exact hw.but (a := b) but_upd nt fun xs z => by
        rw [s2 _ _ upd_same] at z
        cases z
/-- Bag(c, d) -/
theorem pbag {X : Cx} {p pos : Pos} {e : Expr} {es : List Expr} {t : TA} (T : Top X.K X.mg) (hr : Room 6 X.A) (ha : PA X (e :: es) t) (hg : Gl X "Bag" := by rfl)
    (he : starEach (e :: es) X.env = (false, eval e X.env) :: starEach es X.env := by rfl) (hpl : (backTo pos (starEach es X.env)).any (·.1) = false := by rfl) : PE X (.Call (.Name "Bag" p) (e :: es) [] pos) (tMake (He.ga X.K "Bag") (spInit X.K) [] E0 t) := by
  obtain ⟨fd, F, b⟩ := ok_init (P := X.prog) (w := X.w) (base := X.base) T
  exact pe_make (mk_Bag T) F hr hg (g_Bag T) b .nil pass0 ha (by decide) he hpl
theorem bag_made {K : PySem.W.Frag} {H : Hp} {d : Addr} {c : Int} {l : Tb} {Q : VK} (hc : isCk c) (hd : H d = some (.dK (kv l))) (hv : VT c 12 300 l) (h : ∀ H' b, Same H H' → H b = none → BagAt K H' b c (canon l) → Q (.ref b) H') :
    ∀ x dx, H x = none → H dx = none → dx ≠ x → spInit K (.ref x :: ([.int c, .ref d] ++ [])) (upd (upd H dx (.own x)) x (.ins (He.ga K "Bag") dx [])) (fun v H2 => v = .non ∧ Q (.ref x) H2) E0 := fun x dx hx hdx ne => by
  refine ⟨x, d, dx, c, l, rfl, upd_same, hc, ?_, hv, fun H' k hb => ⟨rfl, h H' x (fun b o e => ?_) hx hb⟩⟩
  · rw [upd_ne (ne_of_none hd hx), upd_ne (ne_of_none hd hdx)]
    exact hd
  · refine k b o ?_ (ne_of_none e hx)
    rw [upd_ne (ne_of_none e hx), upd_ne (ne_of_none e hdx)]
    exact e
/-- what == answers -/
def spEqB (K : PySem.W.Frag) : Sp := fun vs H Q _ => ∃ (a : Addr) (y : V) (c : Int) (L : Tb), vs = [.ref a, y] ∧ BagAt K H a c L ∧
  ((∃ b c' M, y = .ref b ∧ BagAt K H b c' M ∧ Q (.bl (decide (c = c' ∧ L = M))) H) ∨ (∃ t, TyX K H y t ∧ PySem.W.kitOne K t (.ref (He.ga K "Bag")) = some false ∧ Q (.bl false) H))
abbrev nEq : List Str := ["self", "other"]
theorem sc_eq : FnScope nEq nEq (defScope s_Bag__eq__) := ⟨rfl, rfl, rfl, by decide +kernel, rfl, by decide +kernel, by decide +kernel⟩
theorem ok_eq (T : Top K mg) : ∃ fd, FnOk P w K mg base CX0 1 (He.ma K (He.ga K "Bag") "__eq__") fd nEq (spEqB K) ∧ Binds K fd nEq [] := by
  obtain ⟨fd, F⟩ := fn_Bag__eq__ T
  refine ⟨fd, ?_, F.bindsN fun _ _ _ _ _ _ us hl => match us, hl with | [_, _], _ => rfl⟩
  refine F.ok sc_eq (fun vs H Q E h => ?_) (fun cdv A outer s H vs Q E hr h => ?_)
  · obtain ⟨a, y, c, L, rfl, _⟩ := h
    rfl
  · obtain ⟨a, y, c, L, rfl, ⟨dx, t, ha, hw⟩, h⟩ := h
    refine ⟨_, PSs.nox (pss_one (ps_ret (pe_and (pe_callB call_isi (by rfl) (f_isinstance T) (by decide +kernel) (pa_cons (pv 1) (pa_cons (pe_glob (v := .ref (He.ga K "Bag")) rfl (g_Bag T) rfl) pa_nil)))
      (pe_and (pe_cmpR op_eq (pe_fld (pv 0) rfl) (pe_fld (pv 1) rfl) (nomark _)) (pe_one (pe_cmpR (op_eqP hr.units) (pe_fld (pv 0) rfl) (pe_fld (pv 1) rfl) (nomark _))))))), ?_⟩
    rcases h with ⟨b, c', M, rfl, ⟨dy, t', hb, hw'⟩, q⟩ | ⟨ty, hty, hk, q⟩
    · refine ⟨_, rfl, _, _, _, _, true, rfl, .own _, .base (.ins hb (cls_Bag T) (x_class T) (x_get T) (x_takes T) (x_mro T)), x_is T, true, rfl, iteT ?_⟩
      refine ⟨_, rfl, a, _, dx, _, _, rfl, ha, cls_Bag T, na_Bag_clock T, flds_clock _ _, _, rfl, b, _, dy, _, _, rfl, hb, cls_Bag T, na_Bag_clock T, flds_clock _ _, rfl, _, rfl, ?_⟩
      by_cases e : c = c'
      · rw [decide_eq_true (show V.int c = V.int c' by rw [e])]
        refine iteT ?_
        refine ⟨_, rfl, a, _, dx, _, _, rfl, ha, cls_Bag T, na_Bag_words T, flds_words _ _, _, rfl, b, _, dy, _, _, rfl, hb, cls_Bag T, na_Bag_words T, flds_words _ _, dW L, dW M, dp_words hw, dp_words hw', dW_plain L, dW_plain M, dW_depth L, ?_⟩
        rw [dW_eqv]
        have e2 : decide (c = c' ∧ L = M) = decide (L = M) := by simp [e]
        rw [e2] at q
        exact q
      · rw [decide_eq_false (show ¬ V.int c = V.int c' from fun z => e (by injection z))]
        refine iteF ?_
        rw [decide_eq_false (show ¬ (c = c' ∧ L = M) from fun z => e z.1)] at q
        exact q
    · exact ⟨_, rfl, y, _, ty, _, false, rfl, .own _, hty, hk, false, rfl, iteF q⟩
end
end Fp

set_option Elab.async false
set_option linter.all false
set_option maxRecDepth 100000
set_option maxHeartbeats 4000000
namespace Fp
open PySem PySem.Spec PyProof.Rows L2
/-! ### the hand: what is drawn from -/
def HandAt (ca : Addr) (H : Hp) (h : Addr) : Prop := ∃ (cs : List Int) (a l sd tn : Int), H h = some (.lst [.ref ca, .int a, .int l, .int sd, .int tn]) ∧ H ca = some (.lst (cs.map V.int)) ∧ cs.length ≤ 63 ∧ (∀ c ∈ cs, 0 ≤ c) ∧ 0 ≤ a ∧ 0 ≤ l
theorem HandAt.ne {H : Hp} {h ca : Addr} {cs : List Int} {a l sd tn : Int} (h1 : H h = some (.lst [.ref ca, .int a, .int l, .int sd, .int tn])) (h2 : H ca = some (.lst (cs.map V.int))) : ca ≠ h := by
  refine ne_of h2 h1 fun z => ?_
  injection z with z
  cases cs with
  | nil => cases z
  | cons c r =>
    rw [List.map_cons] at z
    injection z with z1
    cases z1
theorem HandAt.lst {ca : Addr} {H : Hp} {h : Addr} (x : HandAt ca H h) : ∃ xs, H h = some (.lst xs) := by
  obtain ⟨cs, a, l, sd, tn, h1, _⟩ := x
  exact ⟨_, h1⟩
theorem HandAt.but {ca : Addr} {H H' : Hp} {h d : Addr} (x : HandAt ca H h) (k : But d H H') (hd : ∀ xs, H d ≠ some (.lst xs)) : HandAt ca H' h := by
  obtain ⟨cs, a, l, sd, tn, h1, h2, r⟩ := x
  exact ⟨cs, a, l, sd, tn, k _ _ h1 (fun z => hd _ (z ▸ h1)), k _ _ h2 (fun z => hd _ (z ▸ h2)), r⟩
theorem HandAt.same {ca : Addr} {H H' : Hp} {h : Addr} (x : HandAt ca H h) (k : Same H H') : HandAt ca H' h := by
  obtain ⟨cs, a, l, sd, tn, h1, h2, r⟩ := x
  exact ⟨cs, a, l, sd, tn, k _ _ h1, k _ _ h2, r⟩
theorem HandAt.off {ca : Addr} {H H' : Hp} {h d : Addr} (x : HandAt ca H h) (k : But d H H') (h1 : h ≠ d) (h2 : ca ≠ d) : HandAt ca H' h := by
  obtain ⟨cs, a, l, sd, tn, g1, g2, r⟩ := x
  exact ⟨cs, a, l, sd, tn, k _ _ g1 h1, k _ _ g2 h2, r⟩
theorem HandAt.cells {ca : Addr} {H : Hp} {h : Addr} (x : HandAt ca H h) : ∃ xs, H ca = some (.lst xs) := by
  obtain ⟨cs, a, l, sd, tn, h1, h2, _⟩ := x
  exact ⟨_, h2⟩
theorem cut63 (ns : List Int) : cutV (ns.map V.int) none (some 63) = (ns.take 63).map V.int := by
  unfold cutV
  rw [show HT.sIx (ns.map V.int).length (ns.map V.int).length (some 63) = min 63 (ns.map V.int).length from HT.sIx_nat _ _ 63, HT.sIx_none, List.drop_zero, Nat.sub_zero, List.length_map, List.map_take]
  by_cases h : ns.length ≤ 63
  · rw [Nat.min_eq_right h, List.take_of_length_le (by rw [List.length_map]; exact Nat.le_refl _), List.take_of_length_le (by rw [List.length_map]; exact h)]
  · rw [Nat.min_eq_left (by omega)]
section
variable {P : Program} {w : World} {K : PySem.W.Frag} {mg : Str → Option Value} {base : Heap}
def spHand (K : PySem.W.Frag) : Sp := fun vs H Q _ => ∃ (a : Addr) (ns : List Int), vs = [.ref a] ∧ SqL K H a (ns.map V.int) ∧ ∀ H' h ca, Same H H' → H h = none → HandAt ca H' h → Q (.ref h) H'
abbrev nHand : List Str := ["_law_script", "_law_cells", "_law_cell"]
theorem sc_hand : FnScope nHand ["_law_script"] (defScope s__law_hand) := ⟨rfl, rfl, rfl, by decide +kernel, rfl, by decide +kernel, by decide +kernel⟩
theorem ok_hand (T : Top K mg) : Ok P w K mg base 1 "_law_hand" ["_law_script"] (spHand K) := by
  obtain ⟨fd, F⟩ := fn__law_hand T
  refine ⟨⟨fd, ?_, F.bindsN fun _ _ _ _ _ _ us hl => match us, hl with | [_], _ => rfl⟩, g__law_hand T, F.kp⟩
  refine F.ok sc_hand (fun vs H Q E h => ?_) (fun cdv A outer s H vs Q E hr h => ?_)
  · obtain ⟨a, ns, rfl, _⟩ := h
    rfl
  · obtain ⟨a, ns, rfl, hS, q⟩ := h
    have nd := sc_hand.nd
    have hs : sizeLine = 16777216 := sizeLine_eq
    refine ⟨_, PSs.nox (pss_cons (ps_setLc (i := 1) (own := [("_law_cell", 2)]) (g := gName 2) (tt := tYes) (by rfl) nd rfl rfl (sw_true rfl rfl rfl (by decide +kernel)) (pi_list (pe_slice sl_list (pv 0) po_none (po_some pe_int)))
        (blkOk_by (N := nHand) (sc := defScope s__law_hand) (by decide +kernel)) (fun _ _ _ _ _ => pg_name (i := 2) nd rfl (Or.inl rfl)) (fun _ _ _ _ _ => pts_nil)
        (fun _ _ _ _ _ => pe_callB call_abs (by rfl) (f_abs T) (by decide +kernel) (pa_cons (pe_callTy call_int1 (by rfl) (f_int T) boot_int (pa_cons (pv 2) pa_nil)) pa_nil)))
      (pss_one (ps_ret (pe_lst (pa_cons (pv 1) (pa_cons pe_int (pa_cons pe_int (pa_cons (pe_op op_add pe_int (pe_callB call_len (by rfl) (f_len T) PySem.boot_len (pa_cons (pv 1) pa_nil))) (pa_cons pe_int pa_nil))))))))), ?_⟩
    refine ⟨_, rfl, _, rfl, a, _, rfl, hS, fun S hSn => ?_⟩
    rw [cut63]
    refine ⟨S, rfl, ⟨_, .inl (.inl upd_same)⟩, fun D hD => ?_⟩
    have nDS : D ≠ S := fun e => by
      rw [e, upd_same] at hD
      cases hD
    have hD0 : H D = none := by
      rw [upd_ne nDS] at hD
      exact hD
    refine lc_it (walk_list (xs := (ns.take 63).map V.int)) (fun i H' => (∃ cs : List Int, H' D = some (.lst (cs.map V.int)) ∧ cs.length = i ∧ ∀ c ∈ cs, 0 ≤ c) ∧ Same H H' ∧ H' S = some (.lst ((ns.take 63).map V.int)))
      ⟨⟨[], upd_same, rfl, fun c hc => by cases hc⟩, ?_, ?_⟩ (fun i H' _ hP => .inl (.inl hP.2.2)) ?_ ?_
    · intro b o e
      rw [upd_ne (ne_of_none e hD0), upd_ne (ne_of_none e hSn)]
      exact e
    · rw [upd_ne nDS.symm]
      exact upd_same
    · rintro i x H1 H2 hi ⟨⟨cs, p1, p2, p3⟩, p4, p5⟩ ⟨rfl, e⟩
      rw [List.length_map, List.length_take] at hi
      rw [List.getElem?_map] at e
      cases en : (ns.take 63)[i]? with
      | none => rw [en] at e; cases e
      | some n =>
        rw [en] at e
        have e2 : V.int n = x := Option.some.inj e
        subst e2
        refine ⟨rfl, ?_⟩
        refine ⟨_, rfl, .inl ⟨n, rfl, n, rfl, cs.map V.int, p1, ?_, ⟨cs ++ [if n < 0 then -n else n], ?_, ?_, ?_⟩, ?_, ?_⟩⟩
        · rw [List.length_map]
          omega
        · rw [upd_same, List.map_append]
          rfl
        · rw [List.length_append, p2]
          rfl
        · intro c hc
          rcases List.mem_append.mp hc with hc | hc
          · exact p3 c hc
          · have : c = if n < 0 then -n else n := by simpa using hc
            rw [this]
            split <;> omega
        · intro b o z
          rw [upd_ne (ne_of_none z hD0)]
          exact p4 b o z
        · rw [upd_ne nDS.symm]
          exact p5
    · rintro H' ⟨⟨cs, p1, p2, p3⟩, p4, p5⟩
      rw [List.length_map, List.length_take] at p2
      refine ⟨_, rfl, _, rfl, .ref D, cs.length, rfl, .inl ⟨_, .inl (.inl p1), by rw [List.length_map]⟩, _, _, rfl, rfl, ?_⟩
      refine ⟨by show 5 ≤ sizeLine; omega, fun h hh => ?_⟩
      have hh0 : H h = none := by
        cases z : H h with
        | none => rfl
        | some u =>
          rw [p4 h u z] at hh
          cases hh
      refine q _ h D (p4.trans (same_upd hh)) hh0 ⟨cs, 0, 0, _, 0, upd_same, ?_, by omega, p3, by omega, by omega⟩
      rw [upd_ne (ne_of_none p1 hh)]
      exact p1
def spDraw : Sp := fun vs H Q _ => ∃ (h ca : Addr) (n : Int), vs = [.ref h, .int n] ∧ 0 < n ∧ n < 1073741824 ∧ HandAt ca H h ∧ ∀ (r : Int) (H' : Hp), 0 ≤ r → r < n → HandAt ca H' h → But h H H' → Q (.int r) H'
abbrev nDraw : List Str := ["_law_hand_here", "_law_many", "_law_cell", "_law_digit", "_law_number"]
theorem sc_draw : FnScope nDraw ["_law_hand_here", "_law_many"] (defScope s__law_draw) := ⟨rfl, rfl, rfl, by decide +kernel, rfl, by decide +kernel, by decide +kernel⟩
theorem ok_draw (T : Top K mg) : Ok P w K mg base 1 "_law_draw" ["_law_hand_here", "_law_many"] spDraw := by
  obtain ⟨fd, F⟩ := fn__law_draw T
  refine ⟨⟨fd, ?_, F.bindsN fun _ _ _ _ _ _ us hl => match us, hl with | [_, _], _ => rfl⟩, g__law_draw T, F.kp⟩
  refine F.ok sc_draw (fun vs H Q E h => ?_) (fun cdv A outer s H vs Q E hr h => ?_)
  · obtain ⟨h, ca, n, rfl, _⟩ := h
    rfl
  · obtain ⟨h, ca, n, rfl, hn0, hn1, hh, q⟩ := h
    have nd := sc_draw.nd
    refine ⟨_, PSs.nox (pss_cons (ps_if (PW.pt (pw_and (pt_cmpR op_eq (pe_ix ix_list (pv 0) pe_int (fun _ _ => rfl)) pe_int (nomark _)) (pw_and1 (pt_cmpR op_lt (pe_ix ix_list (pv 0) pe_int (fun _ _ => rfl)) (pe_callB call_len (by rfl) (f_len T) PySem.boot_len (pa_cons (pe_ix ix_list (pv 0) pe_int (fun _ _ => rfl)) pa_nil)) (nomark _)))))
        (pss_cons (ps_set (i := 2) nd rfl (Or.inl rfl) (pe_ix ix_list (pe_ix ix_list (pv 0) pe_int (fun _ _ => rfl)) (pe_ix ix_list (pv 0) pe_int (fun _ _ => rfl)) (fun _ _ => rfl)))
        (pss_cons (ps_asg (pe_op op_add (pe_ix ix_list (pv 0) pe_int (fun _ _ => rfl)) pe_int) (pg_sub (pv 0) pe_int set_list))
        (pss_cons (ps_asg (pe_op op_mod (pe_callTy call_int1 (by rfl) (f_int T) boot_int (pa_cons (pe_op op_add (pe_op op_add (pe_op op_mul (pe_ix ix_list (pv 0) pe_int (fun _ _ => rfl)) pe_int) (pv 2)) pe_int) pa_nil)) pe_int) (pg_sub (pv 0) pe_int set_list))
        (pss_one (ps_if (pt_cmpR op_ge (pv 2) (pe_op op_pow pe_int pe_int) (nomark _)) (pss_one (ps_asg (pv 2) (pg_sub (pv 0) pe_int set_list))) pss_nil))))) pss_nil)
      (pss_cons (ps_if (pt_cmpR op_gt (pe_ix ix_list (pv 0) pe_int (fun _ _ => rfl)) pe_int (nomark _))
        (pss_cons (ps_set (i := 3) nd rfl (Or.inl rfl) (pe_op op_mod (pe_callTy call_int1 (by rfl) (f_int T) boot_int (pa_cons (pe_ix ix_list (pv 0) pe_int (fun _ _ => rfl)) pa_nil)) (pv 1)))
        (pss_cons (ps_asg (pe_op op_fdiv (pe_ix ix_list (pv 0) pe_int (fun _ _ => rfl)) (pv 1)) (pg_sub (pv 0) pe_int set_list))
        (pss_one (ps_ret (pv 3))))) pss_nil)
      (pss_cons (ps_asg (pe_op op_add (pe_ix ix_list (pv 0) pe_int (fun _ _ => rfl)) pe_int) (pg_sub (pv 0) pe_int set_list))
      (pss_cons (ps_set (i := 4) nd rfl (Or.inl rfl) (pe_op op_mod (pe_callTy call_int1 (by rfl) (f_int T) boot_int (pa_cons (pe_op op_mul (pe_callTy call_int1 (by rfl) (f_int T) boot_int (pa_cons (pe_op op_add (pe_ix ix_list (pv 0) pe_int (fun _ _ => rfl)) (pe_op op_mul pe_int (pe_ix ix_list (pv 0) pe_int (fun _ _ => rfl)))) pa_nil)) pe_int) pa_nil)) pe_int))
      (pss_cons (ps_set (i := 4) nd rfl (Or.inl rfl) (pe_op op_mod (pe_callTy call_int1 (by rfl) (f_int T) boot_int (pa_cons (pe_op op_mul (pv 4) (pe_op op_add (pe_op op_fdiv (pv 4) pe_int) pe_int)) pa_nil)) pe_int))
      (pss_cons (ps_set (i := 4) nd rfl (Or.inl rfl) (pe_op op_mod (pe_callTy call_int1 (by rfl) (f_int T) boot_int (pa_cons (pe_op op_mul (pv 4) (pe_op op_add (pe_op op_fdiv (pv 4) pe_int) pe_int)) pa_nil)) pe_int))
      (pss_one (ps_ret (pe_op op_mod (pe_callTy call_int1 (by rfl) (f_int T) boot_int (pa_cons (pe_op op_fdiv (pv 4) pe_int) pa_nil)) (pv 1)))))))))), ?_⟩
    obtain ⟨cs, a, l, sd, tn, h1, h2, h3, h4, h5, h6⟩ := id hh
    have hne := HandAt.ne h1 h2
    obtain ⟨k, rfl⟩ : ∃ k : Nat, a = k := ⟨a.toNat, (Int.toNat_of_nonneg h5).symm⟩
    refine ⟨_, rfl, h, _, 2, _, rfl, rfl, SqL.of h1, rfl, rfl, _, rfl, ?_⟩
    by_cases hl0 : l = 0
    case' neg =>
      rw [decide_eq_false (show ¬ V.int l = V.int 0 from fun z => hl0 (by injection z))]
      refine iteF ?_
      have hk := hh
      have kb := But.refl h H
    case' pos =>
      rw [decide_eq_true (show V.int l = V.int 0 by rw [hl0])]
      refine iteT ?_
      refine ⟨_, rfl, h, _, 1, _, rfl, rfl, SqL.of h1, rfl, _, rfl, h, _, 0, _, rfl, rfl, SqL.of h1, rfl, _, _, rfl, .inl ⟨_, SqL.of h2, rfl⟩, _, _, rfl, rfl, _, rfl, ?_⟩
      refine ite2 (fun ha => ?_) (fun ha => ?_)
    case' pos.refine_2 =>
      have hk := hh
      have kb := But.refl h H
    case' pos.refine_1 =>
      have ha2 : k < cs.length := by
        have := of_decide_eq_true ha
        rw [List.length_map] at this
        omega
      have ek : (cs.map V.int)[k]? = some (.int cs[k]) := by
        rw [List.getElem?_map, List.getElem?_eq_getElem ha2]
        rfl
      have hc0 : 0 ≤ cs[k] := h4 _ (List.getElem_mem ha2)
      refine ⟨_, rfl, h, _, 0, _, rfl, rfl, SqL.of h1, rfl, _, rfl, h, _, 1, _, rfl, rfl, SqL.of h1, rfl, ca, _, _, _, rfl, rfl, SqL.of h2, atI_nat ek, ?_⟩
      refine ⟨_, rfl, h, _, 1, _, rfl, rfl, SqL.of h1, rfl, _, _, rfl, rfl, _, rfl, h, _, 1, 1, rfl, rfl, h1, rfl, ?_⟩
      refine ⟨_, rfl, h, _, 3, _, rfl, rfl, SqL.of upd_same, rfl, _, _, rfl, rfl, .inr ⟨by decide, by decide⟩, _, rfl, _, _, rfl, rfl, _, _, rfl, rfl, .inl ⟨_, rfl, _, _, rfl, rfl, (by show (0 : Int) < _; decide), _, rfl, h, _, 3, 3, rfl, rfl, upd_same, rfl, ?_⟩⟩
      refine ⟨_, rfl, _, _, rfl, rfl, ⟨by decide, by decide, by decide⟩, _, _, rfl, rfl, _, rfl, ?_⟩
      refine ite2 (fun hg => ?_) (fun hg => ?_)
    case' pos.refine_1.refine_2 =>
      have hk : HandAt ca (upd (upd H h (.lst [.ref ca, .int ((k : Int) + 1), .int l, .int sd, .int tn])) h (.lst [.ref ca, .int ((k : Int) + 1), .int l, .int ((sd * 69621 + cs[k] + 11) % 2147483629), .int tn])) h :=
        ⟨cs, _, l, _, tn, upd_same, by rw [upd_ne hne, upd_ne hne]; exact h2, h3, h4, by omega, h6⟩
      have kb : But h H (upd (upd H h (.lst [.ref ca, .int ((k : Int) + 1), .int l, .int sd, .int tn])) h (.lst [.ref ca, .int ((k : Int) + 1), .int l, .int ((sd * 69621 + cs[k] + 11) % 2147483629), .int tn])) := but_upd.trans but_upd
    case' pos.refine_1.refine_1 =>
      refine ⟨_, rfl, _, rfl, h, _, 2, 2, rfl, rfl, upd_same, rfl, ?_⟩
      have hk : HandAt ca (upd (upd (upd H h (.lst [.ref ca, .int ((k : Int) + 1), .int l, .int sd, .int tn])) h (.lst [.ref ca, .int ((k : Int) + 1), .int l, .int ((sd * 69621 + cs[k] + 11) % 2147483629), .int tn])) h (.lst [.ref ca, .int ((k : Int) + 1), .int cs[k], .int ((sd * 69621 + cs[k] + 11) % 2147483629), .int tn])) h :=
        ⟨cs, _, cs[k], _, tn, upd_same, by rw [upd_ne hne, upd_ne hne, upd_ne hne]; exact h2, h3, h4, by omega, hc0⟩
      have kb : But h H (upd (upd (upd H h (.lst [.ref ca, .int ((k : Int) + 1), .int l, .int sd, .int tn])) h (.lst [.ref ca, .int ((k : Int) + 1), .int l, .int ((sd * 69621 + cs[k] + 11) % 2147483629), .int tn])) h (.lst [.ref ca, .int ((k : Int) + 1), .int cs[k], .int ((sd * 69621 + cs[k] + 11) % 2147483629), .int tn])) := (but_upd.trans but_upd).trans but_upd
    all_goals
      obtain ⟨cs1, a1, l1, sd1, tn1, g1, g2, g3, g4, g5, g6⟩ := hk
      have gne := HandAt.ne g1 g2
      refine ⟨_, rfl, h, _, 2, _, rfl, rfl, SqL.of g1, rfl, _, _, rfl, rfl, _, rfl, ?_⟩
      refine ite2 (fun hc => ?_) (fun hc => ?_)
      · refine ⟨_, rfl, h, _, 2, _, rfl, rfl, SqL.of g1, rfl, .inl ⟨_, rfl, _, rfl, _, _, rfl, rfl, hn0, _, rfl, h, _, 2, _, rfl, rfl, SqL.of g1, rfl, _, rfl, _, _, rfl, rfl, ⟨hn0, hn1⟩, _, rfl, h, _, 2, 2, rfl, rfl, g1, rfl, _, rfl, ?_⟩⟩
        exact q _ _ (Int.emod_nonneg _ (by omega)) (Int.emod_lt_of_pos _ hn0) ⟨cs1, a1, l1 / n, sd1, tn1, upd_same, by rw [upd_ne gne]; exact g2, g3, g4, g5, Int.ediv_nonneg g6 (Int.le_of_lt hn0)⟩ (kb.trans but_upd)
      · refine ⟨_, rfl, h, _, 4, _, rfl, rfl, SqL.of g1, rfl, _, _, rfl, rfl, _, rfl, h, _, 4, 4, rfl, rfl, g1, rfl, ?_⟩
        refine ⟨_, rfl, h, _, 3, _, rfl, rfl, SqL.of upd_same, rfl, _, rfl, h, _, 4, _, rfl, rfl, SqL.of upd_same, rfl, _, _, rfl, rfl, .inl ⟨by decide, by decide⟩, _, _, rfl, rfl, .inl ⟨_, rfl, _, _, rfl, rfl, .inr ⟨by decide, by decide⟩, .inl ⟨_, rfl, _, _, rfl, rfl, (by show (0 : Int) < _; decide), ?_⟩⟩⟩
        refine ⟨_, rfl, _, rfl, _, _, rfl, rfl, ⟨by decide, by decide⟩, _, _, rfl, rfl, _, _, rfl, rfl, .inl ⟨Int.lt_of_lt_of_le (by decide) (Int.emod_nonneg _ (by decide)), Int.lt_trans (Int.emod_lt_of_pos _ (by decide)) (by decide)⟩, .inl ⟨_, rfl, _, _, rfl, rfl, (by show (0 : Int) < _; decide), ?_⟩⟩
        refine ⟨_, rfl, _, rfl, _, _, rfl, rfl, ⟨by decide, by decide⟩, _, _, rfl, rfl, _, _, rfl, rfl, .inl ⟨Int.lt_of_lt_of_le (by decide) (Int.emod_nonneg _ (by decide)), Int.lt_trans (Int.emod_lt_of_pos _ (by decide)) (by decide)⟩, .inl ⟨_, rfl, _, _, rfl, rfl, (by show (0 : Int) < _; decide), ?_⟩⟩
        refine ⟨_, rfl, _, _, rfl, rfl, ⟨by decide, by decide⟩, .inl ⟨_, rfl, _, rfl, _, _, rfl, rfl, hn0, ?_⟩⟩
        exact q _ _ (Int.emod_nonneg _ (by omega)) (Int.emod_lt_of_pos _ hn0) ⟨cs1, a1, l1, sd1, _, upd_same, by rw [upd_ne gne]; exact g2, g3, g4, g5, g6⟩ (kb.trans but_upd)
end
end Fp

set_option Elab.async false
set_option linter.all false
set_option maxRecDepth 100000
set_option maxHeartbeats 4000000
namespace Fp
open PySem PySem.Spec PyProof.Rows L2
/-! ### the law's own reckoning with tables -/
def putM (c : Int) (l : Tb) (x : Str) (n : Int) : Tb := if (num l x + n) % c = 0 then dropT l x else putT l x ((num l x + n) % c)
def plusM (c : Int) (l1 l2 : Tb) (f : Int) : Tb := l2.foldl (fun acc p => putM c acc p.1 (f * p.2)) l1
def prodM (c : Int) (l1 l2 : Tb) : Tb := l1.foldl (fun acc p => l2.foldl (fun acc q => putM c acc (p.1 ++ q.1) (p.2 * q.2)) acc) []
theorem num_eq (l : Tb) (x : Str) : (valV (kv l) (Sum.inr x : Key)).getD (.int 0) = .int (num l x) := by
  cases e : has l x with
  | true => rw [valV_yes e] <;> rfl
  | false =>
    obtain ⟨h1, h2⟩ := valV_no e
    rw [h1, h2] <;> rfl
theorem dropT_no {l : Tb} {x : Str} (h : has l x = false) : dropT l x = l := by
  unfold dropT
  rw [List.filter_eq_self]
  intro p hp
  simp only [decide_eq_true_eq]
  intro e
  have : has l x = true := has_iff.mpr (List.mem_map.mpr ⟨p, hp, e⟩)
  rw [h] at this
  cases this
theorem len_putM (c : Int) (l : Tb) (x : Str) (n : Int) : (putM c l x n).length ≤ l.length + 1 := by
  unfold putM
  split
  · exact Nat.le_succ_of_le (List.length_filter_le _ _)
  · exact len_put _ _ _
theorem vt_putM {c : Int} {m k : Nat} {l : Tb} (hc : 0 < c) (hv : VT c m k l) {x : Str} (hx : xyz x) (hl : x.length ≤ m) (n : Int) : VT c m (k + 1) (putM c l x n) := by
  have h1 := Int.emod_nonneg (num l x + n) (show c ≠ 0 by omega)
  have h2 := Int.emod_lt_of_pos (num l x + n) hc
  refine ⟨?_, fun p hp => ?_, fun p hp => ?_, Nat.le_trans (len_putM c l x n) (Nat.succ_le_succ hv.ln)⟩
  · unfold putM
    split
    · exact nd_drop hv.nd x
    · exact nd_put hv.nd x _
  · unfold putM at hp
    split at hp
    · exact hv.nu p (List.mem_filter.mp hp).1
    · rename_i h0
      rcases mem_put hp with rfl | hp
      · exact ⟨by show 1 ≤ (num l x + n) % c; omega, h2⟩
      · exact hv.nu p hp
  · unfold putM at hp
    split at hp
    · exact hv.wd p (List.mem_filter.mp hp).1
    · rcases mem_put hp with rfl | hp
      · exact ⟨hx, hl⟩
      · exact hv.wd p hp
theorem vt_plusM {c : Int} {m k1 k2 : Nat} {l1 l2 : Tb} (hc : 0 < c) (h1 : VT c m k1 l1) (h2 : VT c m k2 l2) (f : Int) : VT c m (k1 + k2) (plusM c l1 l2 f) := by
  have key : ∀ (r : Tb) (acc : Tb) (k : Nat), (∀ p ∈ r, xyz p.1 ∧ p.1.length ≤ m) → VT c m k acc → VT c m (k + r.length) (r.foldl (fun acc p => putM c acc p.1 (f * p.2)) acc) := by
    intro r
    induction r with
    | nil => intro acc k _ h; exact h
    | cons p r ih =>
      intro acc k hw h
      have hp := hw p List.mem_cons_self
      have := ih _ (k + 1) (fun q hq => hw q (List.mem_cons_of_mem _ hq)) (vt_putM hc h hp.1 hp.2 (f * p.2))
      rw [List.length_cons, List.foldl_cons]
      exact this.mono (Nat.le_refl _) (by omega)
  exact (key l2 l1 k1 h2.wd h1).mono (Nat.le_refl _) (Nat.add_le_add_left h2.ln _)
theorem xyz_app {x y : Str} (hx : xyz x) (hy : xyz y) : xyz (x ++ y) := by
  intro c hc
  have e : (x ++ y).cps.toList = x.cps.toList ++ y.cps.toList := by
    show (x.cps ++ y.cps).toList = _
    simp
  rw [e] at hc
  rcases List.mem_append.mp hc with hc | hc
  · exact hx c hc
  · exact hy c hc
theorem len_app (x y : Str) : (x ++ y).length = x.length + y.length := by
  show (x.cps ++ y.cps).size = _
  simp [Str.length]
theorem vt_inner {c : Int} {m1 m2 : Nat} (hc : 0 < c) {p : Str × Int} (hp : xyz p.1 ∧ p.1.length ≤ m1) : ∀ (r : Tb) (acc : Tb) (k : Nat), (∀ q ∈ r, xyz q.1 ∧ q.1.length ≤ m2) → VT c (m1 + m2) k acc →
    VT c (m1 + m2) (k + r.length) (r.foldl (fun acc q => putM c acc (p.1 ++ q.1) (p.2 * q.2)) acc) := by
  intro r
  induction r with
  | nil => intro acc k _ h; exact h
  | cons q r ih =>
    intro acc k hw h
    have hq := hw q List.mem_cons_self
    have := ih _ (k + 1) (fun q hq => hw q (List.mem_cons_of_mem _ hq)) (vt_putM hc h (xyz_app hp.1 hq.1) (by rw [len_app]; exact Nat.add_le_add hp.2 hq.2) (p.2 * q.2))
    rw [List.length_cons, List.foldl_cons]
    exact this.mono (Nat.le_refl _) (by omega)
theorem vt_outer {c : Int} {m1 m2 : Nat} (hc : 0 < c) {l2 : Tb} (h2 : ∀ q ∈ l2, xyz q.1 ∧ q.1.length ≤ m2) : ∀ (r : Tb) (acc : Tb) (k : Nat), (∀ q ∈ r, xyz q.1 ∧ q.1.length ≤ m1) → VT c (m1 + m2) k acc →
    VT c (m1 + m2) (k + r.length * l2.length) (r.foldl (fun acc p => l2.foldl (fun acc q => putM c acc (p.1 ++ q.1) (p.2 * q.2)) acc) acc) := by
  intro r
  induction r with
  | nil => intro acc k _ h; simpa using h
  | cons q r ih =>
    intro acc k hw h
    have := ih _ (k + l2.length) (fun q hq => hw q (List.mem_cons_of_mem _ hq)) (vt_inner hc (hw q List.mem_cons_self) l2 acc k h2 h)
    rw [List.length_cons, List.foldl_cons]
    exact this.mono (Nat.le_refl _) (by rw [Nat.add_mul]; omega)
theorem vt_nil (c : Int) (m : Nat) : VT c m 0 [] := ⟨List.nodup_nil, fun p hp => (by cases hp), fun p hp => (by cases hp), Nat.le_refl _⟩
theorem vt_prodM {c : Int} {m1 m2 k1 k2 : Nat} {l1 l2 : Tb} (hc : 0 < c) (h1 : VT c m1 k1 l1) (h2 : VT c m2 k2 l2) : VT c (m1 + m2) (k1 * k2) (prodM c l1 l2) :=
  (vt_outer hc h2.wd l1 [] 0 h1.wd (vt_nil c _)).mono (Nat.le_refl _) (by rw [Nat.zero_add]; exact Nat.mul_le_mul h1.ln h2.ln)
theorem VT.of {c : Int} {m k m' k' : Nat} {l : Tb} (h : VT c m k l) (hm : ∀ p ∈ l, p.1.length ≤ m') (hk : l.length ≤ k') : VT c m' k' l := ⟨h.nd, h.nu, fun p hp => ⟨(h.wd p hp).1, hm p hp⟩, hk⟩
section
variable {P : Program} {w : World} {K : PySem.W.Frag} {mg : Str → Option Value} {base : Heap}
def spPut : Sp := fun vs H Q _ => ∃ (c : Int) (d : Addr) (x : Str) (n : Int) (l : Tb), vs = [.int c, .ref d, .str x, .int n] ∧ 0 < c ∧ H d = some (.dK (kv l)) ∧ l.length ≤ 1000000 ∧
  ∀ H', But d H H' → H' d = some (.dK (kv (putM c l x n))) → Q .non H'
abbrev nPut : List Str := ["_law_clock_here", "_law_bag", "_law_word_here", "_law_number", "_law_total"]
def spPlus : Sp := fun vs H Q _ => ∃ (c : Int) (d1 d2 : Addr) (f : Int) (l1 l2 : Tb), vs = [.int c, .ref d1, .ref d2, .int f] ∧ 0 < c ∧ c ≤ 7 ∧ H d1 = some (.dK (kv l1)) ∧ H d2 = some (.dK (kv l2)) ∧ Nd l2 ∧ (∀ p ∈ l2, 1 ≤ p.2 ∧ p.2 < c) ∧ l1.length ≤ 900000 ∧ l2.length ≤ 100000 ∧
  ∀ H' d, Same H H' → H d = none → H' d = some (.dK (kv (plusM c l1 l2 f))) → Q (.ref d) H'
abbrev nPlus : List Str := ["_law_clock_here", "_law_one", "_law_other", "_law_factor", "_law_found", "_law_word_here"]
theorem len_plusM (c f : Int) : ∀ (l2 l1 : Tb), (plusM c l1 l2 f).length ≤ l1.length + l2.length
  | [], l1 => Nat.le_refl _
  | p :: r, l1 => by
    have h1 := len_plusM c f r (putM c l1 p.1 (f * p.2))
    have h2 := len_putM c l1 p.1 (f * p.2)
    have e : plusM c l1 (p :: r) f = plusM c (putM c l1 p.1 (f * p.2)) r f := rfl
    rw [e, List.length_cons]
    omega
theorem plusM_take (c f : Int) (l1 l2 : Tb) {i : Nat} {p : Str × Int} (e : l2[i]? = some p) : plusM c l1 (l2.take (i + 1)) f = putM c (plusM c l1 (l2.take i) f) p.1 (f * p.2) := by
  unfold plusM
  rw [List.take_add_one, e, List.foldl_append]
  rfl
end
end Fp

set_option Elab.async false
set_option linter.all false
set_option maxRecDepth 100000
set_option maxHeartbeats 4000000
namespace Fp
open PySem PySem.Spec PyProof.Rows L2
theorem vt_len {c : Int} {m k : Nat} {l : Tb} (h : VT c m k l) : l.length ≤ k := h.ln
theorem inner_take (c : Int) (acc l2 : Tb) (p : Str × Int) {j : Nat} {q : Str × Int} (e : l2[j]? = some q) :
    (l2.take (j + 1)).foldl (fun acc q => putM c acc (p.1 ++ q.1) (p.2 * q.2)) acc = putM c ((l2.take j).foldl (fun acc q => putM c acc (p.1 ++ q.1) (p.2 * q.2)) acc) (p.1 ++ q.1) (p.2 * q.2) := by
  rw [List.take_add_one, e, List.foldl_append]
  rfl
theorem prodM_take (c : Int) (l1 l2 : Tb) {i : Nat} {p : Str × Int} (e : l1[i]? = some p) : prodM c (l1.take (i + 1)) l2 = l2.foldl (fun acc q => putM c acc (p.1 ++ q.1) (p.2 * q.2)) (prodM c (l1.take i) l2) := by
  unfold prodM
  rw [List.take_add_one, e, List.foldl_append]
  rfl
theorem len_inner (c : Int) (p : Str × Int) : ∀ (r acc : Tb), (r.foldl (fun acc q => putM c acc (p.1 ++ q.1) (p.2 * q.2)) acc).length ≤ acc.length + r.length
  | [], acc => Nat.le_refl _
  | q :: r, acc => by
    have h1 := len_inner c p r (putM c acc (p.1 ++ q.1) (p.2 * q.2))
    have h2 := len_putM c acc (p.1 ++ q.1) (p.2 * q.2)
    rw [List.foldl_cons, List.length_cons]
    omega
theorem len_prodM (c : Int) (l2 : Tb) : ∀ (r acc : Tb), (r.foldl (fun acc p => l2.foldl (fun acc q => putM c acc (p.1 ++ q.1) (p.2 * q.2)) acc) acc).length ≤ acc.length + r.length * l2.length
  | [], acc => by simp
  | p :: r, acc => by
    have h1 := len_prodM c l2 r (l2.foldl (fun acc q => putM c acc (p.1 ++ q.1) (p.2 * q.2)) acc)
    have h2 := len_inner c p l2 acc
    rw [List.foldl_cons, List.length_cons, Nat.add_mul]
    omega
section
variable {P : Program} {w : World} {K : PySem.W.Frag} {mg : Str → Option Value} {base : Heap}
def spProd : Sp := fun vs H Q _ => ∃ (c : Int) (d1 d2 : Addr) (m1 m2 : Nat) (l1 l2 : Tb), vs = [.int c, .ref d1, .ref d2] ∧ 0 < c ∧ c ≤ 7 ∧ d1 ≠ d2 ∧ H d1 = some (.dK (kv l1)) ∧ H d2 = some (.dK (kv l2)) ∧ VT c m1 1000 l1 ∧ VT c m2 1000 l2 ∧ m1 ≤ 1000 ∧ m2 ≤ 1000 ∧
  ∀ H' d, Same H H' → H d = none → H' d = some (.dK (kv (prodM c l1 l2))) → Q (.ref d) H'
abbrev nProd : List Str := ["_law_clock_here", "_law_one", "_law_other", "_law_found", "_law_front", "_law_back"]
end
end Fp

set_option Elab.async false
set_option linter.all false
set_option maxRecDepth 100000
set_option maxHeartbeats 4000000
namespace Fp
open PySem PySem.Spec PyProof.Rows L2
theorem leIS_rk {a b : IS} (ha : a.2.1 = -(a.2.2.length : Int)) (hb : b.2.1 = -(b.2.2.length : Int)) : leIS a b = leR a.2.2 b.2.2 := by
  have e1 : enIS a = rk a.2.2 := by
    unfold enIS rk
    rw [ha]
  have e2 : enIS b = rk b.2.2 := by
    unfold enIS rk
    rw [hb]
  unfold leIS leR
  rw [PySem.W.dataLe_eq, PySem.W.dataLe_eq]
  simp only [e1, e2]
theorem sort_words {ps : List IS} (h : ∀ p ∈ ps, p.2.1 = -(p.2.2.length : Int)) : (ps.mergeSort leIS).map (·.2.2) = (ps.map (·.2.2)).mergeSort leR :=
  PySem.W.sort_maps (·.2.2) fun a ha b hb => leIS_rk (h a ha) (h b hb)
section
variable {P : Program} {w : World} {K : PySem.W.Frag} {mg : Str → Option Value} {base : Heap}
def spOrder : Sp := fun vs H Q _ => ∃ (d : Addr) (l : Tb), vs = [.ref d] ∧ H d = some (.dK (kv l)) ∧ (∀ p ∈ l, p.1.length ≤ 1000000) ∧ l.length ≤ 1000000 ∧ ∀ H' D, Same H H' → H D = none → H' D = some (.lst ((ordW l).map V.str)) → Q (.ref D) H'
abbrev nOrder : List Str := ["_law_bag", "_law_pair", "_law_word_here"]
def spCk : Sp := fun vs H Q _ => ∃ h ca : Addr, vs = [.ref h] ∧ HandAt ca H h ∧ ∀ H' c, HandAt ca H' h → But h H H' → isCk c → Q (.int c) H'
end
end Fp

set_option Elab.async false
set_option linter.all false
set_option maxRecDepth 100000
set_option maxHeartbeats 4000000
namespace Fp
open PySem PySem.Spec PyProof.Rows L2 TL
/-! ### words drawn -/
theorem join_signs : ∀ ys : List Str, (∀ y ∈ ys, ∃ c, y = ⟨#[c]⟩ ∧ (c = 120 ∨ c = 121 ∨ c = 122)) → xyz (PySem.Txt.join "" ys) ∧ (PySem.Txt.join "" ys).length = ys.length := by
  intro ys
  have h0 : ∀ zs : List Str, (∀ y ∈ zs, ∃ c, y = ⟨#[c]⟩ ∧ (c = 120 ∨ c = 121 ∨ c = 122)) → (∀ c ∈ joinL [] (zs.map tl), c = 120 ∨ c = 121 ∨ c = 122) ∧ (joinL [] (zs.map tl)).length = zs.length := by
    intro zs
    induction zs with
    | nil => intro _; exact ⟨fun c hc => (by cases hc), rfl⟩
    | cons y r ih =>
      intro h
      obtain ⟨c, rfl, hc⟩ := h y List.mem_cons_self
      obtain ⟨i1, i2⟩ := ih fun z hz => h z (List.mem_cons_of_mem _ hz)
      cases r with
      | nil =>
        refine ⟨fun d hd => ?_, rfl⟩
        have : d = c := by simpa [joinL, tl] using hd
        rw [this]
        exact hc
      | cons z r =>
        have e : joinL [] ((⟨#[c]⟩ :: z :: r : List Str).map tl) = c :: joinL [] ((z :: r).map tl) := rfl
        rw [e]
        refine ⟨fun d hd => ?_, by rw [List.length_cons, i2]; rfl⟩
        rcases List.mem_cons.mp hd with rfl | hd
        · exact hc
        · exact i1 d hd
  intro h
  obtain ⟨h1, h2⟩ := h0 ys h
  have e : tl (PySem.Txt.join "" ys) = joinL [] (ys.map tl) := by
    rw [join_eq, tl_join]
    rfl
  refine ⟨fun c hc => h1 c ?_, ?_⟩
  · rw [← e]
    exact hc
  · rw [len_tl, e, h2]
theorem vt_put {c : Int} {m k : Nat} {l : Tb} (hv : VT c m k l) {x : Str} (hx : xyz x) (hl : x.length ≤ m) {n : Int} (h1 : 1 ≤ n) (h2 : n < c) : VT c m (k + 1) (putT l x n) := by
  refine ⟨nd_put hv.nd x n, fun p hp => ?_, fun p hp => ?_, Nat.le_trans (len_put l x n) (Nat.succ_le_succ hv.ln)⟩
  · rcases mem_put hp with rfl | hp
    · exact ⟨h1, h2⟩
    · exact hv.nu p hp
  · rcases mem_put hp with rfl | hp
    · exact ⟨hx, hl⟩
    · exact hv.wd p hp
section
variable {P : Program} {w : World} {K : PySem.W.Frag} {mg : Str → Option Value} {base : Heap}
def spWrd : Sp := fun vs H Q _ => ∃ (h ca : Addr) (z : Str) (m : Nat), vs = [.ref h, .str z, .int m] ∧ HandAt ca H h ∧ xyz z ∧ 1 ≤ z.length ∧ z.length ≤ 1000 ∧ m ≤ 1000 ∧ ∀ H' r, HandAt ca H' h → But h H H' → xyz r → r.length ≤ m → Q (.str r) H'
abbrev nWrd : List Str := ["_law_hand_here", "_law_letters", "_law_most", "_law_turn"]
end
end Fp

set_option Elab.async false
set_option linter.all false
set_option maxRecDepth 100000
set_option maxHeartbeats 4000000
namespace Fp
open PySem PySem.Spec PyProof.Rows L2
instance (w : Str) : Decidable (xyz w) := by unfold xyz; infer_instance
theorem merge_kv' : ∀ (l a : Tb), Nd l → (∀ p ∈ l, has a p.1 = false) → mergeK (kv a) (kv l) = kv (a ++ l)
  | [], a, _, _ => by
    rw [List.append_nil]
    rfl
  | p :: r, a, h, hd => by
    have h' : (p.1 :: r.map (·.1)).Nodup := h
    obtain ⟨h1, h2⟩ := List.nodup_cons.mp h'
    have e : mergeK (kv a) (kv (p :: r)) = mergeK (putK (kv a) (Sum.inr p.1 : Key) (.int p.2)) (kv r) := rfl
    have e2 : putT a p.1 p.2 = a ++ [p] := by
      unfold putT
      rw [hd p List.mem_cons_self, if_neg Bool.false_ne_true]
    rw [e, putK_kv, e2, merge_kv' r (a ++ [p]) h2 fun q hq => ?_]
    · rw [List.append_assoc]
      rfl
    · unfold has
      rw [List.any_append]
      have h3 := hd q (List.mem_cons_of_mem _ hq)
      unfold has at h3
      rw [h3]
      have : p.1 ≠ q.1 := fun z => h1 (z ▸ List.mem_map.mpr ⟨q, hq, rfl⟩)
      simp [this]
theorem merge_kv {l : Tb} (h : Nd l) : mergeK [] (kv l) = kv l := merge_kv' l [] h fun _ _ => rfl
theorem vt_small {c : Int} {l : Tb} (hk : Nd l) (hw : ∀ x ∈ l.map (·.1), xyz x ∧ x.length ≤ 2) (hn : ∀ p ∈ l, 1 ≤ p.2 ∧ p.2 < c) (hl : l.length ≤ 3) : VT c 2 3 l :=
  ⟨hk, hn, fun p hp => hw _ (List.mem_map.mpr ⟨p, hp, rfl⟩), hl⟩
theorem vt1 {c n : Int} {a : Str} (ha : xyz a ∧ a.length ≤ 2) (h1 : 1 ≤ n) (h2 : n < c) : VT c 2 3 [(a, n)] := by
  refine ⟨by show [a].Nodup; simp, fun p hp => ?_, fun p hp => ?_, by show 1 ≤ 3; decide⟩
  · have : p = (a, n) := by simpa using hp
    subst this
    exact ⟨h1, h2⟩
  · have : p = (a, n) := by simpa using hp
    subst this
    exact ha
theorem vt2 {c n m : Int} {a b : Str} (hne : a ≠ b) (ha : xyz a ∧ a.length ≤ 2) (hb : xyz b ∧ b.length ≤ 2) (h1 : 1 ≤ n ∧ n < c) (h2 : 1 ≤ m ∧ m < c) : VT c 2 3 [(a, n), (b, m)] := by
  refine ⟨by show [a, b].Nodup; simp [hne], fun p hp => ?_, fun p hp => ?_, by show 2 ≤ 3; decide⟩
  · have hp' : p = (a, n) ∨ p = (b, m) := by simpa using hp
    rcases hp' with rfl | rfl
    · exact h1
    · exact h2
  · have hp' : p = (a, n) ∨ p = (b, m) := by simpa using hp
    rcases hp' with rfl | rfl
    · exact ha
    · exact hb
theorem vt3 {c n m k : Int} {a b d : Str} (hn : ([a, b, d] : List Str).Nodup) (ha : xyz a ∧ a.length ≤ 2) (hb : xyz b ∧ b.length ≤ 2) (hd : xyz d ∧ d.length ≤ 2) (h1 : 1 ≤ n ∧ n < c) (h2 : 1 ≤ m ∧ m < c) (h3 : 1 ≤ k ∧ k < c) : VT c 2 3 [(a, n), (b, m), (d, k)] := by
  refine ⟨hn, fun p hp => ?_, fun p hp => ?_, by show 3 ≤ 3; decide⟩
  · have hp' : p = (a, n) ∨ p = (b, m) ∨ p = (d, k) := by simpa using hp
    rcases hp' with rfl | rfl | rfl
    · exact h1
    · exact h2
    · exact h3
  · have hp' : p = (a, n) ∨ p = (b, m) ∨ p = (d, k) := by simpa using hp
    rcases hp' with rfl | rfl | rfl
    · exact ha
    · exact hb
    · exact hd
section
variable {P : Program} {w : World} {K : PySem.W.Frag} {mg : Str → Option Value} {base : Heap}
def spLot : Sp := fun vs H Q _ => ∃ (h ca : Addr) (c : Int) (z : Str) (m k : Nat), vs = [.ref h, .int c, .str z, .int m, .int k] ∧ HandAt ca H h ∧ 2 ≤ c ∧ c ≤ 7 ∧ xyz z ∧ 1 ≤ z.length ∧ z.length ≤ 1000 ∧ m ≤ 1000 ∧ k ≤ 1000 ∧
  ∀ H' d l, HandAt ca H' h → But h H H' → H d = none → H' d = some (.dK (kv l)) → VT c m k l → Q (.ref d) H'
abbrev nLot : List Str := ["_law_hand_here", "_law_clock_here", "_law_letters", "_law_most", "_law_many", "_law_found", "_law_turn"]
def spSmall : Sp := fun vs H Q _ => ∃ (h ca : Addr) (c : Int), vs = [.ref h, .int c] ∧ HandAt ca H h ∧ 2 ≤ c ∧ c ≤ 7 ∧ ∀ H' d l, HandAt ca H' h → But h H H' → H d = none → H' d = some (.dK (kv l)) → VT c 2 3 l → l ≠ [] → Q (.ref d) H'
/-- what is known of each of the small ones -/
def Good (c : Int) (H0 H : Hp) (d : Addr) : Prop := ∃ l, H d = some (.dK (kv l)) ∧ VT c 2 3 l ∧ H0 d = none ∧ l ≠ []
theorem Good.same {c : Int} {H0 H H' : Hp} {d : Addr} (g : Good c H0 H d) (s : Same H H') : Good c H0 H' d := by
  obtain ⟨l, h1, h2, h3, h4⟩ := g
  exact ⟨l, s _ _ h1, h2, h3, h4⟩
/-- one more display -/
theorem one_more {c : Int} {H0 H : Hp} {ds : List Addr} {p : Addr} {l : Tb} (s0 : Same H0 H) (hp : H p = none) (g : ∀ d ∈ ds, Good c H0 H d) (hv : VT c 2 3 l) (hne : l ≠ [] := by exact List.cons_ne_nil _ _) :
    Same H0 (upd H p (.dK (kv l))) ∧ ∀ d ∈ ds ++ [p], Good c H0 (upd H p (.dK (kv l))) d := by
  refine ⟨s0.trans (same_upd hp), fun d hd => ?_⟩
  rcases List.mem_append.mp hd with hd | hd
  · exact (g d hd).same (same_upd hp)
  · have : d = p := by simpa using hd
    subst this
    exact ⟨l, upd_same, hv, s0.free hp, hne⟩
theorem one_list {c : Int} {H0 H : Hp} {ds : List Addr} {p : Addr} {xs : List V} (s0 : Same H0 H) (hp : H p = none) (g : ∀ d ∈ ds, Good c H0 H d) :
    Same H0 (upd H p (.lst xs)) ∧ ∀ d ∈ ds, Good c H0 (upd H p (.lst xs)) d := ⟨s0.trans (same_upd hp), fun d hd => (g d hd).same (same_upd hp)⟩
abbrev nSmall : List Str := ["_law_hand_here", "_law_clock_here", "_law_number", "_law_some_here"]
end
end Fp

set_option Elab.async false
set_option linter.all false
set_option maxRecDepth 100000
set_option maxHeartbeats 4000000
namespace Fp
open PySem PySem.Spec PyProof.Rows L2
section
variable {P : Program} {w : World} {K : PySem.W.Frag} {mg : Str → Option Value} {base : Heap}
def spWoven : Sp := fun vs H Q _ => ∃ (h ca : Addr) (c k : Int), vs = [.ref h, .int c, .int k] ∧ HandAt ca H h ∧ 2 ≤ c ∧ c ≤ 7 ∧ 1 ≤ k ∧ k ≤ 1000 ∧ ∀ H' d l, HandAt ca H' h → But h H H' → H d = none → H' d = some (.dK (kv l)) → VT c 7 120 l → Q (.ref d) H'
abbrev nWoven : List Str := ["_law_hand_here", "_law_clock_here", "_law_most", "_law_found", "_law_turn", "_law_one", "_law_other", "_law_longer", "_law_word_here"]
/-- a new thing stands apart from what stood -/
theorem But.ne {a : Addr} {H H' : Hp} (k : But a H H') {p q : Addr} {o : HO} (hp : H p = some o) (np : p ≠ a) (hq : H' q = none) : p ≠ q := ne_of_none (k _ _ hp np) hq
theorem HandAt.neD {ca : Addr} {H : Hp} {h d : Addr} {kvs : List (Key × V)} (x : HandAt ca H h) (hd : H d = some (.dK kvs)) : d ≠ h := by
  obtain ⟨xs, hx⟩ := x.lst
  exact ne_of hd hx (by intro z; cases z)
end
end Fp

set_option Elab.async false
set_option linter.all false
set_option maxRecDepth 100000
set_option maxHeartbeats 4000000
namespace Fp
open PySem PySem.Spec PyProof.Rows L2
/-! ### the order of words: total, no two alike -/
theorem leR_total : PySem.W.TotalLe leR := PySem.W.sortLe_total (listOrd itemOrd) false fun b => PySem.W.keyToks (rk b)
theorem rk_inj {a b : Str} (h : PySem.W.keyToks (rk a) = PySem.W.keyToks (rk b)) : a = b := by
  unfold rk at h
  simp only [PySem.W.keyToks, PySem.W.keyToksAll] at h
  have : a.cps.toList = b.cps.toList := by simp at h; rw [h.2]
  exact PySem.W.str_of_cps this
theorem leR_anti {a b : Str} (h1 : leR a b = true) (h2 : leR b a = true) : a = b := by
  have e1 : PySem.W.dataLt (rk b) (rk a) = false := by
    have : (!PySem.W.dataLt (rk b) (rk a)) = true := h1
    simpa using this
  have e2 : PySem.W.dataLt (rk a) (rk b) = false := by
    have : (!PySem.W.dataLt (rk a) (rk b)) = true := h2
    simpa using this
  exact rk_inj ((listOrd itemOrd).total _ _ e2 e1)
theorem ord_perm {l m : List Str} (h : l.Perm m) : l.mergeSort leR = m.mergeSort leR :=
  List.Perm.eq_of_pairwise (le := fun a b => leR a b = true) (fun a b _ _ h1 h2 => leR_anti h1 h2) (PySem.W.sort_pairwise leR_total l) (PySem.W.sort_pairwise leR_total m)
    (((List.mergeSort_perm l leR).trans h).trans (List.mergeSort_perm m leR).symm)
/-! ### tables in order -/
theorem num_find {l : Tb} (h : Nd l) {p : Str × Int} (hp : p ∈ l) : num l p.1 = p.2 := by
  obtain ⟨i, hi, e⟩ := List.mem_iff_getElem.mp hp
  exact num_of h (i := i) (by rw [List.getElem?_eq_getElem hi, e])
theorem num_not {l : Tb} {x : Str} (h : x ∉ l.map (·.1)) : num l x = 0 := by
  refine (valV_no ?_).2
  cases e : has l x with
  | false => rfl
  | true => exact absurd (has_iff.mp e) h
theorem canon_keys (l : Tb) : (canon l).map (·.1) = ordW l := by
  unfold canon
  rw [List.map_map]
  exact List.map_id' _
theorem canon_nd {l : Tb} (h : Nd l) : Nd (canon l) := by
  unfold Nd
  rw [canon_keys]
  exact (List.mergeSort_perm _ _).nodup_iff.mpr h
theorem canon_mem {l : Tb} {p : Str × Int} (h : p ∈ canon l) : p.1 ∈ l.map (·.1) ∧ p.2 = num l p.1 := by
  unfold canon at h
  obtain ⟨x, hx, rfl⟩ := List.mem_map.mp h
  exact ⟨ordW_mem.mp hx, rfl⟩
theorem canon_num {l : Tb} (h : Nd l) (x : Str) : num (canon l) x = num l x := by
  by_cases hx : x ∈ l.map (·.1)
  · have hm : (x, num l x) ∈ canon l := by
      unfold canon
      exact List.mem_map.mpr ⟨x, ordW_mem.mpr hx, rfl⟩
    exact num_find (canon_nd h) hm
  · rw [num_not hx, num_not]
    rw [canon_keys]
    exact fun z => hx (ordW_mem.mp z)
/-- the same words with the same numbers: the same in order -/
theorem canon_eq {l m : Tb} (hl : Nd l) (hm : Nd m) (hk : ∀ x, x ∈ l.map (·.1) ↔ x ∈ m.map (·.1)) (hn : ∀ x, num l x = num m x) : canon l = canon m := by
  have e : ordW l = ordW m := ord_perm ((List.perm_ext_iff_of_nodup hl hm).mpr hk)
  unfold canon
  rw [e]
  exact List.map_congr_left fun x _ => by rw [hn x]
theorem canon_canon {l : Tb} (h : Nd l) : canon (canon l) = canon l :=
  canon_eq (canon_nd h) h (fun x => by rw [canon_keys]; exact ordW_mem) (canon_num h)
theorem vt_canon {c : Int} {m k : Nat} {l : Tb} (h : VT c m k l) : VT c m k (canon l) := by
  have key : ∀ p ∈ canon l, p ∈ l := fun p hp => by
    obtain ⟨h1, h2⟩ := canon_mem hp
    obtain ⟨q, hq, e⟩ := List.mem_map.mp h1
    have := num_find h.nd hq
    have : p = q := by
      obtain ⟨a, b⟩ := p
      obtain ⟨a', b'⟩ := q
      simp only at e h2 this
      subst e
      rw [h2, this]
    rw [this]
    exact hq
  refine ⟨canon_nd h.nd, fun p hp => h.nu p (key p hp), fun p hp => h.wd p (key p hp), ?_⟩
  have : (canon l).length = l.length := by
    unfold canon
    rw [List.length_map, ordW_len]
  rw [this]
  exact h.ln
/-- a number changed: not the same -/
theorem canon_ne {l m : Tb} (hl : Nd l) (hm : Nd m) {x : Str} (h : num l x ≠ num m x) : canon l ≠ canon m := fun e => h (by rw [← canon_num hl, ← canon_num hm, e])
theorem num_put {l : Tb} (x : Str) (n : Int) : num (putT l x n) x = n := by
  unfold putT
  cases e : has l x with
  | true =>
    rw [if_pos rfl]
    unfold num
    have : ∀ r : Tb, has r x = true → ((r.map fun p => if p.1 = x then (p.1, n) else p).find? fun p => decide (p.1 = x)).map (·.2) = some n := by
      intro r
      induction r with
      | nil => intro h; cases h
      | cons p r ih =>
        intro h
        by_cases hp : p.1 = x
        · rw [List.map_cons, if_pos hp, List.find?_cons_of_pos (by simpa using hp)]
          rfl
        · rw [List.map_cons, if_neg hp, List.find?_cons_of_neg (by simpa using hp)]
          refine ih ?_
          unfold has at h ⊢
          rw [List.any_cons] at h
          simpa [hp] using h
    rw [this l e]
    rfl
  | false =>
    rw [if_neg Bool.false_ne_true]
    unfold num
    rw [List.find?_append]
    have : l.find? (fun p => decide (p.1 = x)) = none := by
      rw [has_find] at e
      cases z : l.find? fun p => decide (p.1 = x) with
      | none => rfl
      | some p => rw [z] at e; cases e
    rw [this]
    simp
theorem num_drop {l : Tb} (x : Str) : num (dropT l x) x = 0 := by
  refine num_not fun h => ?_
  obtain ⟨p, hp, e⟩ := List.mem_map.mp h
  have := (List.mem_filter.mp hp).2
  simp [e] at this
theorem num_putM (c : Int) (l : Tb) (x : Str) (n : Int) : num (putM c l x n) x = (num l x + n) % c := by
  unfold putM
  split
  · rename_i h
    rw [num_drop, h]
  · exact num_put x _
theorem num_range {c : Int} {m k : Nat} {l : Tb} (hc : 0 < c) (h : VT c m k l) (x : Str) : 0 ≤ num l x ∧ num l x < c := by
  by_cases hx : x ∈ l.map (·.1)
  · obtain ⟨p, hp, rfl⟩ := List.mem_map.mp hx
    rw [num_find h.nd hp]
    have := h.nu p hp
    omega
  · rw [num_not hx]
    omega
/-- words put in backward -/
theorem puts_new : ∀ (xs : List Str) (f : Str → Int) (a : Tb), (a.map (·.1) ++ xs).Nodup → xs.foldl (fun a x => putT a x (f x)) a = a ++ xs.map fun x => (x, f x)
  | [], f, a, _ => by simp
  | x :: r, f, a, h => by
    have h1 : x ∉ a.map (·.1) := fun z => by
      have := (List.nodup_append.mp h).2.2 x z x List.mem_cons_self
      exact this rfl
    have e : putT a x (f x) = a ++ [(x, f x)] := by
      unfold putT
      have : has a x = false := by
        cases z : has a x with
        | false => rfl
        | true => exact absurd (has_iff.mp z) h1
      rw [this, if_neg Bool.false_ne_true]
    rw [List.foldl_cons, e, puts_new r f _ (by rw [List.map_append, List.append_assoc]; exact h), List.map_cons, List.append_assoc]
    rfl
def backT (l : Tb) : Tb := (ordW l).reverse.map fun x => (x, num l x)
theorem backT_keys (l : Tb) : (backT l).map (·.1) = (ordW l).reverse := by
  unfold backT
  rw [List.map_map]
  exact List.map_id' _
theorem ordW_nd {l : Tb} (h : Nd l) : (ordW l).Nodup := (List.mergeSort_perm _ _).nodup_iff.mpr h
theorem backT_nd {l : Tb} (h : Nd l) : Nd (backT l) := by
  unfold Nd
  rw [backT_keys]
  exact (List.reverse_perm _).nodup_iff.mpr (ordW_nd h)
theorem backT_num {l : Tb} (h : Nd l) (x : Str) : num (backT l) x = num l x := by
  by_cases hx : x ∈ l.map (·.1)
  · have hm : (x, num l x) ∈ backT l := by
      unfold backT
      exact List.mem_map.mpr ⟨x, List.mem_reverse.mpr (ordW_mem.mpr hx), rfl⟩
    exact num_find (backT_nd h) hm
  · rw [num_not hx, num_not]
    rw [backT_keys]
    exact fun z => hx (ordW_mem.mp (List.mem_reverse.mp z))
theorem backT_canon {l : Tb} (h : Nd l) : canon (backT l) = canon l :=
  canon_eq (backT_nd h) h (fun x => by rw [backT_keys, List.mem_reverse]; exact ordW_mem) (backT_num h)
theorem vt_back {c : Int} {m k : Nat} {l : Tb} (h : VT c m k l) : VT c m k (backT l) := by
  have key : ∀ p ∈ backT l, p ∈ l := fun p hp => by
    unfold backT at hp
    obtain ⟨x, hx, rfl⟩ := List.mem_map.mp hp
    obtain ⟨q, hq, e⟩ := List.mem_map.mp (ordW_mem.mp (List.mem_reverse.mp hx))
    have := num_find h.nd hq
    obtain ⟨a, b⟩ := q
    simp only at e this
    subst e
    rw [this]
    exact hq
  refine ⟨backT_nd h.nd, fun p hp => h.nu p (key p hp), fun p hp => h.wd p (key p hp), ?_⟩
  unfold backT
  rw [List.length_map, List.length_reverse, ordW_len]
  exact h.ln
section
variable {P : Program} {w : World} {K : PySem.W.Frag} {mg : Str → Option Value} {base : Heap}
def spSome : Sp := fun vs H Q _ => ∃ (h ca : Addr) (c : Int), vs = [.ref h, .int c] ∧ HandAt ca H h ∧ 2 ≤ c ∧ c ≤ 7 ∧ ∀ H' d l, HandAt ca H' h → But h H H' → H d = none → H' d = some (.dK (kv l)) → VT c 7 120 l → Q (.ref d) H'
abbrev nSome : List Str := ["_law_hand_here", "_law_clock_here", "_law_kind"]
end
end Fp

set_option Elab.async false
set_option linter.all false
set_option maxRecDepth 100000
set_option maxHeartbeats 4000000
namespace Fp
open PySem PySem.Spec PyProof.Rows L2
/-! ### sums of numbers by words -/
def tot (es : Tb) (x : Str) : Int := (es.map fun p => if p.1 = x then p.2 else 0).sum
theorem tot_nil (x : Str) : tot [] x = 0 := rfl
theorem tot_cons (p : Str × Int) (r : Tb) (x : Str) : tot (p :: r) x = (if p.1 = x then p.2 else 0) + tot r x := by
  unfold tot
  rw [List.map_cons, List.sum_cons]
theorem tot_app (a b : Tb) (x : Str) : tot (a ++ b) x = tot a x + tot b x := by
  induction a with
  | nil => rw [List.nil_append, tot_nil, Int.zero_add]
  | cons p r ih => rw [List.cons_append, tot_cons, tot_cons, ih, Int.add_assoc]
theorem tot_not {l : Tb} {x : Str} (h : x ∉ l.map (·.1)) : tot l x = 0 := by
  induction l with
  | nil => rfl
  | cons p r ih =>
    rw [tot_cons, if_neg (fun z : p.1 = x => h (by rw [← z]; exact List.mem_cons_self)), ih (fun z => h (List.mem_cons_of_mem _ z)), Int.zero_add]
theorem num_cons (p : Str × Int) (r : Tb) (x : Str) : num (p :: r) x = if p.1 = x then p.2 else num r x := by
  unfold num
  by_cases h : p.1 = x
  · rw [List.find?_cons_of_pos (by simpa using h), if_pos h]
    rfl
  · rw [List.find?_cons_of_neg (by simpa using h), if_neg h]
theorem tot_num {l : Tb} (h : Nd l) (x : Str) : tot l x = num l x := by
  induction l with
  | nil => rfl
  | cons p r ih =>
    have h' : (p.1 :: r.map (·.1)).Nodup := h
    obtain ⟨h1, h2⟩ := List.nodup_cons.mp h'
    rw [tot_cons, num_cons]
    by_cases e : p.1 = x
    · rw [if_pos e, if_pos e, tot_not (e ▸ h1), Int.add_zero]
    · rw [if_neg e, if_neg e, Int.zero_add, ih h2]
theorem num_put_ne {l : Tb} {x y : Str} (n : Int) (h : x ≠ y) : num (putT l x n) y = num l y := by
  unfold putT
  cases has l x with
  | true =>
    rw [if_pos rfl]
    induction l with
    | nil => rfl
    | cons p r ih =>
      rw [List.map_cons, num_cons, num_cons, ih]
      by_cases e : p.1 = x
      · rw [if_pos e]
        show (if p.1 = y then n else num r y) = _
        rw [if_neg (fun z => h (e ▸ z)), if_neg (fun z => h (e ▸ z))]
      · rw [if_neg e]
  | false =>
    rw [if_neg Bool.false_ne_true]
    induction l with
    | nil =>
      rw [List.nil_append, num_cons, if_neg h]
    | cons p r ih => rw [List.cons_append, num_cons, num_cons, ih]
theorem num_drop_ne {l : Tb} {x y : Str} (h : x ≠ y) : num (dropT l x) y = num l y := by
  unfold dropT
  induction l with
  | nil => rfl
  | cons p r ih =>
    by_cases e : p.1 = x
    · rw [List.filter_cons_of_neg (by simpa using e), ih, num_cons, if_neg (fun z => h (e ▸ z))]
    · rw [List.filter_cons_of_pos (by simpa using e), num_cons, num_cons, ih]
theorem num_putM_ne (c : Int) {l : Tb} {x y : Str} (n : Int) (h : x ≠ y) : num (putM c l x n) y = num l y := by
  unfold putM
  split
  · exact num_drop_ne h
  · exact num_put_ne _ h
/-- the law's putting, entry by entry -/
theorem num_foldM {c : Int} : ∀ (es : Tb) (a : Tb) (x : Str), num (es.foldl (fun a p => putM c a p.1 p.2) a) x % c = (num a x + tot es x) % c
  | [], a, x => by rw [tot_nil, Int.add_zero]; rfl
  | p :: r, a, x => by
    rw [List.foldl_cons, num_foldM r, tot_cons]
    by_cases e : p.1 = x
    · subst e
      rw [num_putM, if_pos rfl, Int.emod_add_emod, Int.add_assoc]
    · rw [num_putM_ne _ _ e, if_neg e, Int.zero_add]
/-- laying to, entry by entry -/
def addT (es a : Tb) : Tb := es.foldl (fun a p => putT a p.1 (num a p.1 + p.2)) a
theorem num_addT : ∀ (es a : Tb) (x : Str), num (addT es a) x = num a x + tot es x
  | [], a, x => by rw [tot_nil, Int.add_zero]; rfl
  | p :: r, a, x => by
    have e0 : addT (p :: r) a = addT r (putT a p.1 (num a p.1 + p.2)) := rfl
    rw [e0, num_addT r, tot_cons]
    by_cases e : p.1 = x
    · subst e
      rw [num_put, if_pos rfl, Int.add_assoc]
    · rw [num_put_ne _ e, if_neg e, Int.zero_add]
theorem nd_addT : ∀ (es a : Tb), Nd a → Nd (addT es a)
  | [], a, h => h
  | p :: r, a, h => nd_addT r _ (nd_put h _ _)
theorem len_addT : ∀ (es a : Tb), (addT es a).length ≤ a.length + es.length
  | [], a => Nat.le_refl _
  | p :: r, a => by
    have h1 := len_addT r (putT a p.1 (num a p.1 + p.2))
    have h2 := len_put a p.1 (num a p.1 + p.2)
    have e0 : addT (p :: r) a = addT r (putT a p.1 (num a p.1 + p.2)) := rfl
    rw [e0, List.length_cons]
    omega
theorem key_put {l : Tb} {x : Str} {n : Int} {q : Str × Int} (h : q ∈ putT l x n) : q.1 = x ∨ ∃ p ∈ l, p.1 = q.1 := by
  rcases mem_put h with rfl | h
  · exact .inl rfl
  · exact .inr ⟨q, h, rfl⟩
theorem key_addT : ∀ (es a : Tb) (q : Str × Int), q ∈ addT es a → (∃ p ∈ a, p.1 = q.1) ∨ ∃ p ∈ es, p.1 = q.1
  | [], a, q, h => .inl ⟨q, h, rfl⟩
  | p :: r, a, q, h => by
    rcases key_addT r _ q h with ⟨p', h1, h2⟩ | ⟨p', h1, h2⟩
    · rcases key_put h1 with e | ⟨p2, h3, h4⟩
      · exact .inr ⟨p, List.mem_cons_self, e ▸ h2⟩
      · exact .inl ⟨p2, h3, h4.trans h2⟩
    · exact .inr ⟨p', List.mem_cons_of_mem _ h1, h2⟩
/-- tidied -/
def tidyM (c : Int) (l : Tb) : Tb := (l.filter fun p => decide (p.2 % c ≠ 0)).map fun p => (p.1, p.2 % c)
theorem tidy_keys {c : Int} {l : Tb} {q : Str × Int} (h : q ∈ tidyM c l) : ∃ p ∈ l, q = (p.1, p.2 % c) ∧ p.2 % c ≠ 0 := by
  unfold tidyM at h
  obtain ⟨p, hp, rfl⟩ := List.mem_map.mp h
  obtain ⟨h1, h2⟩ := List.mem_filter.mp hp
  exact ⟨p, h1, rfl, of_decide_eq_true h2⟩
theorem tidy_nd {c : Int} {l : Tb} (h : Nd l) : Nd (tidyM c l) := by
  unfold Nd tidyM
  rw [List.map_map]
  have : ((fun p : Str × Int => p.1) ∘ fun p : Str × Int => (p.1, p.2 % c)) = fun p => p.1 := rfl
  rw [this]
  exact (List.Sublist.map _ List.filter_sublist).nodup h
theorem tidy_len {c : Int} {l : Tb} : (tidyM c l).length ≤ l.length := by
  unfold tidyM
  rw [List.length_map]
  exact List.length_filter_le _ _
theorem tidy_rg {c : Int} {l : Tb} (hc : 0 < c) : ∀ q ∈ tidyM c l, 1 ≤ q.2 ∧ q.2 < c := fun q hq => by
  obtain ⟨p, _, rfl, h⟩ := tidy_keys hq
  have h1 := Int.emod_nonneg p.2 (show c ≠ 0 by omega)
  have h2 := Int.emod_lt_of_pos p.2 hc
  show 1 ≤ p.2 % c ∧ p.2 % c < c
  omega
theorem num_tidy {c : Int} {l : Tb} (h : Nd l) (x : Str) : num (tidyM c l) x = num l x % c := by
  unfold tidyM
  induction l with
  | nil => rfl
  | cons p r ih =>
    have h' : (p.1 :: r.map (·.1)).Nodup := h
    obtain ⟨h1, h2⟩ := List.nodup_cons.mp h'
    have ih := ih h2
    rw [num_cons]
    by_cases e : p.2 % c = 0
    · rw [List.filter_cons_of_neg (by simpa using e), ih]
      by_cases e2 : p.1 = x
      · rw [if_pos e2, e, num_not (e2 ▸ h1)]
        rfl
      · rw [if_neg e2]
    · rw [List.filter_cons_of_pos (by simpa using e), List.map_cons, num_cons]
      by_cases e2 : p.1 = x
      · rw [if_pos e2, if_pos e2]
      · rw [if_neg e2, if_neg e2, ih]
theorem vt_tidy {c : Int} {m : Nat} {l : Tb} (hc : 0 < c) (h : Nd l) (hw : ∀ p ∈ l, xyz p.1 ∧ p.1.length ≤ m) : VT c m l.length (tidyM c l) :=
  ⟨tidy_nd h, tidy_rg hc, fun q hq => by
    obtain ⟨p, hp, rfl, _⟩ := tidy_keys hq
    exact hw p hp, tidy_len⟩
/-! ### two tables with the same numbers are the same in order -/
theorem rg_key {l : Tb} (h : Nd l) (hr : ∀ p ∈ l, 1 ≤ p.2) (x : Str) : x ∈ l.map (·.1) ↔ num l x ≠ 0 := by
  constructor
  · intro hx
    obtain ⟨p, hp, rfl⟩ := List.mem_map.mp hx
    rw [num_find h hp]
    have := hr p hp
    omega
  · intro hn
    by_cases hx : x ∈ l.map (·.1)
    · exact hx
    · exact absurd (num_not hx) hn
theorem canon_ext {l m : Tb} (hl : Nd l) (hm : Nd m) (rl : ∀ p ∈ l, 1 ≤ p.2) (rm : ∀ p ∈ m, 1 ≤ p.2) (h : ∀ x, num l x = num m x) : canon l = canon m :=
  canon_eq hl hm (fun x => by rw [rg_key hl rl, rg_key hm rm, h x]) h
theorem num_mod {c : Int} {m k : Nat} {l : Tb} (hc : 0 < c) (h : VT c m k l) (x : Str) : num l x % c = num l x :=
  Int.emod_eq_of_lt (num_range hc h x).1 (num_range hc h x).2
/-- tables by a clock -/
theorem vt_ext {c : Int} {m k m' k' : Nat} {l l' : Tb} (h : VT c m k l) (h' : VT c m' k' l') (e : ∀ x, num l x = num l' x) : canon l = canon l' :=
  canon_ext h.nd h'.nd (fun p hp => (h.nu p hp).1) (fun p hp => (h'.nu p hp).1) e
/-! ### what the law's sums and products have -/
def scl (f : Int) (l : Tb) : Tb := l.map fun p => (p.1, f * p.2)
theorem tot_scl (f : Int) (l : Tb) (x : Str) : tot (scl f l) x = f * tot l x := by
  induction l with
  | nil => rw [tot_nil, Int.mul_zero]; rfl
  | cons p r ih =>
    have e : scl f (p :: r) = (p.1, f * p.2) :: scl f r := rfl
    rw [e, tot_cons, tot_cons, ih, Int.mul_add]
    by_cases h : p.1 = x
    · rw [if_pos h, if_pos h]
    · rw [if_neg h, if_neg h, Int.mul_zero]
theorem num_plusM {c f : Int} {m k m' k' : Nat} {l1 l2 : Tb} (hc : 0 < c) (h1 : VT c m k l1) (h2 : VT c m k' l2) (x : Str) : num (plusM c l1 l2 f) x = (num l1 x + f * num l2 x) % c := by
  have v := vt_plusM hc h1 h2 f
  rw [← num_mod hc v x]
  have e : plusM c l1 l2 f = (scl f l2).foldl (fun a p => putM c a p.1 p.2) l1 := by
    unfold plusM scl
    rw [List.foldl_map]
  rw [e, num_foldM, tot_scl, tot_num h2.nd]
/-- each word of one with each of the other behind it -/
def prs (l m : Tb) : Tb := l.flatMap fun p => m.map fun q => (p.1 ++ q.1, p.2 * q.2)
theorem prs_cons (p : Str × Int) (l m : Tb) : prs (p :: l) m = (m.map fun q => (p.1 ++ q.1, p.2 * q.2)) ++ prs l m := List.flatMap_cons
theorem prodM_tab (c : Int) (l m : Tb) : prodM c l m = (prs l m).foldl (fun a p => putM c a p.1 p.2) [] := by
  have key : ∀ (l : Tb) (a : Tb), l.foldl (fun acc p => m.foldl (fun acc q => putM c acc (p.1 ++ q.1) (p.2 * q.2)) acc) a = (prs l m).foldl (fun a p => putM c a p.1 p.2) a := by
    intro l
    induction l with
    | nil => intro a; rfl
    | cons p r ih =>
      intro a
      rw [List.foldl_cons, ih, prs_cons, List.foldl_append, List.foldl_map]
  exact key l []
theorem num_prodM {c : Int} {m1 k1 m2 k2 : Nat} {l1 l2 : Tb} (hc : 0 < c) (h1 : VT c m1 k1 l1) (h2 : VT c m2 k2 l2) (x : Str) : num (prodM c l1 l2) x = tot (prs l1 l2) x % c := by
  rw [← num_mod hc (vt_prodM hc h1 h2) x, prodM_tab, num_foldM]
  have : num [] x = 0 := rfl
  rw [this, Int.zero_add]
def multT (l m : Tb) : Tb := addT (prs l m) []
/-! ### products by their totals -/
theorem str_cancel {u v w : Str} (h : u ++ v = u ++ w) : v = w := by
  have e : (u ++ v).cps.toList = (u ++ w).cps.toList := by rw [h]
  have e1 : ∀ a b : Str, (a ++ b).cps.toList = a.cps.toList ++ b.cps.toList := fun a b => by
    show (a.cps ++ b.cps).toList = _
    exact Array.toList_append
  rw [e1, e1] at e
  exact PySem.W.str_of_cps (List.append_cancel_left e)
theorem str_cancel_r {u v w : Str} (h : v ++ u = w ++ u) : v = w := by
  have e : (v ++ u).cps.toList = (w ++ u).cps.toList := by rw [h]
  have e1 : ∀ a b : Str, (a ++ b).cps.toList = a.cps.toList ++ b.cps.toList := fun a b => by
    show (a.cps ++ b.cps).toList = _
    exact Array.toList_append
  rw [e1, e1] at e
  exact PySem.W.str_of_cps (List.append_cancel_right e)
theorem str_assoc (u v w : Str) : (u ++ v) ++ w = u ++ (v ++ w) := by
  apply PySem.W.str_of_cps
  have e1 : ∀ a b : Str, (a ++ b).cps.toList = a.cps.toList ++ b.cps.toList := fun a b => by
    show (a.cps ++ b.cps).toList = _
    exact Array.toList_append
  rw [e1, e1, e1, e1, List.append_assoc]
/-- a word put ahead of each -/
def fwd (p : Str × Int) (m : Tb) : Tb := m.map fun q => (p.1 ++ q.1, p.2 * q.2)
theorem tot_fwd (p : Str × Int) (m : Tb) (x : Str) : (∃ v, p.1 ++ v = x ∧ tot (fwd p m) x = p.2 * tot m v) ∨ ((∀ v, p.1 ++ v ≠ x) ∧ tot (fwd p m) x = 0) := by
  by_cases h : ∃ v, p.1 ++ v = x
  · obtain ⟨v, hv⟩ := h
    refine .inl ⟨v, hv, ?_⟩
    induction m with
    | nil => rw [tot_nil, Int.mul_zero]; rfl
    | cons q r ih =>
      have e : fwd p (q :: r) = (p.1 ++ q.1, p.2 * q.2) :: fwd p r := rfl
      rw [e, tot_cons, tot_cons, ih, Int.mul_add]
      by_cases z : q.1 = v
      · rw [if_pos z, if_pos (by rw [z]; exact hv)]
      · rw [if_neg z, if_neg (fun y => z (str_cancel (y.trans hv.symm))), Int.mul_zero]
  · have h' : ∀ v, p.1 ++ v ≠ x := fun v hv => h ⟨v, hv⟩
    refine .inr ⟨h', ?_⟩
    induction m with
    | nil => rfl
    | cons q r ih =>
      have e : fwd p (q :: r) = (p.1 ++ q.1, p.2 * q.2) :: fwd p r := rfl
      rw [e, tot_cons, if_neg (h' q.1), ih, Int.zero_add]
def bwd (q : Str × Int) (l : Tb) : Tb := l.map fun p => (p.1 ++ q.1, p.2 * q.2)
theorem tot_bwd (q : Str × Int) (l : Tb) (x : Str) : (∃ v, v ++ q.1 = x ∧ tot (bwd q l) x = tot l v * q.2) ∨ ((∀ v, v ++ q.1 ≠ x) ∧ tot (bwd q l) x = 0) := by
  by_cases h : ∃ v, v ++ q.1 = x
  · obtain ⟨v, hv⟩ := h
    refine .inl ⟨v, hv, ?_⟩
    induction l with
    | nil => rw [tot_nil, Int.zero_mul]; rfl
    | cons p r ih =>
      have e : bwd q (p :: r) = (p.1 ++ q.1, p.2 * q.2) :: bwd q r := rfl
      rw [e, tot_cons, tot_cons, ih, Int.add_mul]
      by_cases z : p.1 = v
      · rw [if_pos z, if_pos (by rw [z]; exact hv)]
      · rw [if_neg z, if_neg (fun y => z (str_cancel_r (y.trans hv.symm))), Int.zero_mul]
  · have h' : ∀ v, v ++ q.1 ≠ x := fun v hv => h ⟨v, hv⟩
    refine .inr ⟨h', ?_⟩
    induction l with
    | nil => rfl
    | cons p r ih =>
      have e : bwd q (p :: r) = (p.1 ++ q.1, p.2 * q.2) :: bwd q r := rfl
      rw [e, tot_cons, if_neg (h' p.1), ih, Int.zero_add]
theorem tot_prs_cons (p : Str × Int) (l m : Tb) (x : Str) : tot (prs (p :: l) m) x = tot (fwd p m) x + tot (prs l m) x := by
  rw [prs_cons, tot_app]
  rfl
theorem prs_nil_r (l : Tb) : prs l [] = [] := by
  induction l with
  | nil => rfl
  | cons p r ih => rw [prs_cons, ih]; rfl
theorem tot_prs_cons_r (q : Str × Int) (l m : Tb) (x : Str) : tot (prs l (q :: m)) x = tot (bwd q l) x + tot (prs l m) x := by
  induction l with
  | nil => rfl
  | cons p r ih =>
    rw [tot_prs_cons, tot_prs_cons, ih]
    have e1 : fwd p (q :: m) = (p.1 ++ q.1, p.2 * q.2) :: fwd p m := rfl
    have e2 : bwd q (p :: r) = (p.1 ++ q.1, p.2 * q.2) :: bwd q r := rfl
    rw [e1, e2, tot_cons, tot_cons]
    omega
/-- alike by a clock -/
def Lk (c : Int) (l m : Tb) : Prop := ∀ x, tot l x % c = tot m x % c
theorem Lk.refl (c : Int) (l : Tb) : Lk c l l := fun _ => rfl
theorem Lk.symm {c : Int} {l m : Tb} (h : Lk c l m) : Lk c m l := fun x => (h x).symm
theorem Lk.trans {c : Int} {l m n : Tb} (h : Lk c l m) (g : Lk c m n) : Lk c l n := fun x => (h x).trans (g x)
theorem Lk.app {c : Int} {l l' m m' : Tb} (h : Lk c l l') (g : Lk c m m') : Lk c (l ++ m) (l' ++ m') := fun x => by
  rw [tot_app, tot_app, Int.add_emod, h x, g x, ← Int.add_emod]
theorem Lk.scl {c : Int} (f : Int) {l l' : Tb} (h : Lk c l l') : Lk c (scl f l) (Fp.scl f l') := fun x => by
  rw [tot_scl, tot_scl, Int.mul_emod, h x, ← Int.mul_emod]
theorem Lk.prs_r {c : Int} (l : Tb) {m m' : Tb} (h : Lk c m m') : Lk c (prs l m) (prs l m') := fun x => by
  induction l with
  | nil => rfl
  | cons p r ih =>
    rw [tot_prs_cons, tot_prs_cons, Int.add_emod, ih]
    have : tot (fwd p m) x % c = tot (fwd p m') x % c := by
      rcases tot_fwd p m x with ⟨v, hv, e⟩ | ⟨hn, e⟩
      · rcases tot_fwd p m' x with ⟨v', hv', e'⟩ | ⟨hn, e'⟩
        · have : v = v' := str_cancel (hv.trans hv'.symm)
          rw [e, e', this, Int.mul_emod, h v', ← Int.mul_emod]
        · exact absurd hv (hn v)
      · rcases tot_fwd p m' x with ⟨v', hv', e'⟩ | ⟨_, e'⟩
        · exact absurd hv' (hn v')
        · rw [e, e']
    rw [this, ← Int.add_emod]
theorem Lk.prs_l {c : Int} {l l' : Tb} (m : Tb) (h : Lk c l l') : Lk c (prs l m) (prs l' m) := fun x => by
  induction m with
  | nil => rw [prs_nil_r, prs_nil_r]
  | cons q r ih =>
    rw [tot_prs_cons_r, tot_prs_cons_r, Int.add_emod, ih]
    have : tot (bwd q l) x % c = tot (bwd q l') x % c := by
      rcases tot_bwd q l x with ⟨v, hv, e⟩ | ⟨hn, e⟩
      · rcases tot_bwd q l' x with ⟨v', hv', e'⟩ | ⟨hn, e'⟩
        · have : v = v' := str_cancel_r (hv.trans hv'.symm)
          rw [e, e', this, Int.mul_emod, h v', ← Int.mul_emod]
        · exact absurd hv (hn v)
      · rcases tot_bwd q l' x with ⟨v', hv', e'⟩ | ⟨_, e'⟩
        · exact absurd hv' (hn v')
        · rw [e, e']
    rw [this, ← Int.add_emod]
theorem Lk.prs {c : Int} {l l' m m' : Tb} (h : Lk c l l') (g : Lk c m m') : Lk c (prs l m) (Fp.prs l' m') := (Lk.prs_l m h).trans (Lk.prs_r l' g)
theorem prs_assoc (l m n : Tb) : prs (prs l m) n = prs l (prs m n) := by
  unfold prs
  rw [List.flatMap_assoc]
  congr 1
  funext p
  rw [List.flatMap_map, List.map_flatMap]
  congr 1
  funext q
  rw [List.map_map]
  congr 1
  funext r
  simp only [Function.comp]
  rw [str_assoc, Int.mul_assoc]
theorem prs_app_r (l m n : Tb) (x : Str) : tot (prs l (m ++ n)) x = tot (prs l m ++ prs l n) x := by
  induction l with
  | nil => rfl
  | cons p r ih =>
    rw [tot_app] at ih ⊢
    rw [tot_prs_cons, tot_prs_cons, tot_prs_cons, ih]
    have e : fwd p (m ++ n) = fwd p m ++ fwd p n := by unfold fwd; rw [List.map_append]
    rw [e, tot_app]
    omega
theorem str_nil_l (x : Str) : ("" : Str) ++ x = x := PySem.W.str_of_cps (by show ((#[] : Array Nat) ++ x.cps).toList = _; simp)
theorem str_nil_r (x : Str) : x ++ ("" : Str) = x := PySem.W.str_of_cps (by show (x.cps ++ (#[] : Array Nat)).toList = _; simp)
theorem prs_one_l (m : Tb) : prs [("", 1)] m = m := by
  rw [prs_cons]
  have : prs [] m = [] := rfl
  rw [this, List.append_nil]
  have e : (fun q : Str × Int => (((("" : Str), (1 : Int)).1 ++ q.1, (("" : Str), (1 : Int)).2 * q.2) : Str × Int)) = id := by
    funext q
    show ((("" : Str) ++ q.1, 1 * q.2) : Str × Int) = q
    rw [str_nil_l, Int.one_mul]
  rw [e, List.map_id]
theorem prs_one_r (l : Tb) : prs l [("", 1)] = l := by
  induction l with
  | nil => rfl
  | cons p r ih =>
    rw [prs_cons, ih]
    show ((p.1 ++ ("" : Str), p.2 * 1) : Str × Int) :: r = _
    rw [str_nil_r, Int.mul_one]
end Fp

set_option Elab.async false
set_option linter.all false
set_option maxRecDepth 100000
set_option maxHeartbeats 4000000
namespace L2
open PySem PySem.Spec PyProof.Rows
/-- a dict comprehension over what is walked: Pv by the turn and the heap, the new dict at D in it -/
theorem dc_it {J : It} {n : Nat} {G : Hp → Prop} {Y : Nat → Hp → V → Hp → Prop} (wk : Walk J n G Y) {g : TG} {tt : TT} {tk tv : TE} {vs : List Nat} {σ : St} {H1 : Hp} {D : Addr} {Qd : Hp → Prop} (Pv : Nat → Hp → Prop) (z0 : Pv 0 (upd H1 D (.dK [])))
    (zG : ∀ i H, i ≤ n → Pv i H → G H)
    (zs : ∀ i x H H', i < n → Pv i H → Y i H x H' → g x (wipe σ vs) H' fun σ2 H2 => wipe σ2 vs = wipe σ vs ∧ tt σ2 H2 fun b H3 =>
      if b = true then tk σ2 H3 fun y H4 => tv σ2 H4 fun z H5 => ∃ kvs k, y = kV k ∧ H5 D = some (.dK kvs) ∧ kvs.length < sizeLine ∧ Pv (i + 1) (upd H5 D (.dK (putK kvs k z))) else Pv (i + 1) H3)
    (zd : ∀ H, Pv n H → Qd H) :
    ∃ W : Nat → Nat → Hp → Prop, (∃ m, W 0 m (upd H1 D (.dK []))) ∧ ∀ i m H, W i m H →
      (J.stop i H ∧ Qd H) ∨ (J.go i H ∧ ∃ Nx : Hp → Prop, (∀ H', Nx H' → ∃ m', m' < m ∧ W (i + 1) m' H') ∧ ∀ x H', J.yld i H x H' → g x (wipe σ vs) H' fun σ2 H2 => wipe σ2 vs = wipe σ vs ∧ tt σ2 H2 fun b H3 =>
        if b = true then tk σ2 H3 fun y H4 => tv σ2 H4 fun z H5 => ∃ kvs k, y = kV k ∧ H5 D = some (.dK kvs) ∧ kvs.length < sizeLine ∧ Nx (upd H5 D (.dK (putK kvs k z))) else Nx H3) := by
  refine ⟨fun i m H => (m = n - i ∧ i ≤ n) ∧ Pv i H, ⟨n, ⟨by simp, Nat.zero_le _⟩, z0⟩, ?_⟩
  rintro i m H ⟨⟨rfl, hi⟩, p⟩
  have q := zG i H hi p
  by_cases hlt : i < n
  · exact .inr ⟨wk.goes i H hlt q, Pv (i + 1), fun H' p' => ⟨n - (i + 1), by omega, ⟨rfl, hlt⟩, p'⟩, fun x H' y => zs i x H H' hlt p (wk.yields i H x H' hlt q y)⟩
  · obtain rfl : i = n := by omega
    exact .inl ⟨wk.stops H q, zd H p⟩
/-- X(), X an own class without __init__ -/
theorem pmk_own0 {X : Cx} {C : Addr} {bmB : List Value} {B newId initId : String} {x : Str} {p pos : Pos} (F : ExcBaseFacts B newId initId bmB) (q : PySem.W.excIn X.K C bmB newId = true) (gC : X.mg x = some (.ref C))
    (kC : PySem.W.keepIn X.K (.ref C) = true) (r : Raises X (.ref C)) (hg : Gl X x) (hdb : (x == ("__debug__" : Str)) = false := by decide) : PMk X (.Call (.Name x p) [] [] pos) (fun _ H Q => Q (.ref C) none H) := by
  intro pins s σ H Q I h
  refine wpAny_Call_Name_kw (ld_glob I hg gC ?_ hdb)
  refine PySem.W.callWith_K0 (K := X.K) I.kIn kC ?_
  show wpAny _ _ (call (.ref C) []) _ _ _
  obtain ⟨bm, N, nm, qn, bs, hdct, sn, sub, ab, col, dd, k0, k1, k2, k3, k5, mN, hC, hN, hni, T⟩ := exc_obj I.kIn q
  refine wpAny_call_exc_subT F T hC hN hni (fun h' e hm => ?_) (Nat.zero_le _)
  exact mk_of I hm r h (I.hok.gone hm.new)
abbrev tTru (K : PySem.W.Frag) (te : TE) : TT := fun σ H Q => te σ H fun x H' => ∃ k, TruV K x H' k ∧ Q k H'
abbrev tMod (a b : TE) : TE := tOp (rI (fun _ j => 0 < j) fun i j => .int (i % j)) a b
abbrev gPair (K : PySem.W.Frag) (i j : Nat) : TG := gTup K 2 (gCons (gName i) (gCons (gName j) gNil))
end L2
namespace Fp
open PySem PySem.Spec PyProof.Rows L2
theorem tidy_take (c : Int) {l : Tb} {i : Nat} {p : Str × Int} (e : l[i]? = some p) : tidyM c (l.take (i + 1)) = if p.2 % c ≠ 0 then tidyM c (l.take i) ++ [(p.1, p.2 % c)] else tidyM c (l.take i) := by
  unfold tidyM
  rw [List.take_add_one, e]
  simp only [Option.toList_some, List.filter_append, List.map_append]
  by_cases h : p.2 % c = 0
  · rw [if_neg (fun z => z h)]
    have : [p].filter (fun p => decide (p.2 % c ≠ 0)) = [] := List.filter_cons_of_neg (by simpa using h)
    rw [this]
    simp
  · rw [if_pos h]
    have : [p].filter (fun p => decide (p.2 % c ≠ 0)) = [p] := List.filter_cons_of_pos (by simpa using h)
    rw [this]
    rfl
theorem tidy_no (c : Int) {l : Tb} (h : Nd l) {i : Nat} {p : Str × Int} (e : l[i]? = some p) : has (tidyM c (l.take i)) p.1 = false := by
  cases z : has (tidyM c (l.take i)) p.1 with
  | false => rfl
  | true =>
    exfalso
    obtain ⟨q, hq, e2⟩ := List.mem_map.mp (has_iff.mp z)
    obtain ⟨p', hp', e3, _⟩ := tidy_keys hq
    rw [e3] at e2
    have h1 : Nd (l.take (i + 1)) := by
      unfold Nd
      rw [List.map_take]
      exact (List.take_sublist _ _).nodup h
    unfold Nd at h1
    rw [List.take_add_one, e, List.map_append] at h1
    have h2 := (List.nodup_append.mp h1).2.2
    exact h2 p'.1 (List.mem_map.mpr ⟨p', hp', rfl⟩) p.1 (by simp) e2
theorem kv_item {l : Tb} {i : Nat} {k v : V} (h1 : ((kv l)[i]?.map fun kv => kV kv.1) = some k) (h2 : ((kv l)[i]?.map Prod.snd) = some v) : ∃ p, l[i]? = some p ∧ k = .str p.1 ∧ v = .int p.2 := by
  unfold kv at h1 h2
  rw [List.getElem?_map] at h1 h2
  cases q : l[i]? with
  | none => rw [q] at h1; cases h1
  | some p =>
    rw [q] at h1 h2
    exact ⟨p, rfl, (Option.some.inj h1).symm, (Option.some.inj h2).symm⟩
section
variable {P : Program} {w : World} {K : PySem.W.Frag} {mg : Str → Option Value} {base : Heap}
def spTidied : Sp := fun vs H Q _ => ∃ (d : Addr) (c : Int) (l : Tb), vs = [.ref d, .int c] ∧ 0 < c ∧ H d = some (.dK (kv l)) ∧ Nd l ∧ l.length ≤ 1000000 ∧ ∀ H' D, Same H H' → H D = none → H' D = some (.dK (kv (tidyM c l))) → Q (.ref D) H'
abbrev nTidied : List Str := ["table", "clock", "word", "number"]
theorem sc_tidied : FnScope nTidied ["table", "clock"] (defScope s_tidied) := ⟨rfl, rfl, rfl, by decide +kernel, rfl, by decide +kernel, by decide +kernel⟩
theorem ok_tidied (T : Top K mg) : Ok P w K mg base 1 "tidied" ["table", "clock"] spTidied := by
  obtain ⟨fd, F⟩ := fn_tidied T
  refine ⟨⟨fd, ?_, F.bindsN fun _ _ _ _ _ _ us hl => match us, hl with | [_, _], _ => rfl⟩, g_tidied T, F.kp⟩
  refine F.ok sc_tidied (fun vs H Q E h => ?_) (fun cdv A outer s H vs Q E hr h => ?_)
  · obtain ⟨d, c, l, rfl, _⟩ := h
    rfl
  · obtain ⟨d, c, l, rfl, hc, hd, hnd, hll, q⟩ := h
    have nd := sc_tidied.nd
    have hu := hu_of hr
    have hs : sizeLine = 16777216 := sizeLine_eq
    refine ⟨_, PSs.nox (pss_one (ps_ret (pe_lock (pe_dc (own := [("word", 2), ("number", 3)]) (g := gPair K 2 3) (tt := tTru K (tMod (tVar 3) (tVar 1))) (tk := tVar 2) (tv := tMod (tVar 3) (tVar 1)) rfl nd (pi_items (pv 0)) (blkOk_by (N := nTidied) (sc := defScope s_tidied) (by decide +kernel))
      (fun _ _ _ _ _ => pg_tup rfl (pgs_cons (pg_name (i := 2) nd rfl (Or.inl rfl)) (pgs_cons (pg_name (i := 3) nd rfl (Or.inl rfl)) pgs_nil)))
      (fun _ _ _ _ _ => pts_one (pt_truth (pe_op op_mod (pv 3) (pv 1)) (fun _ => rfl))) (fun _ _ _ _ _ => pv 2) (fun _ _ _ _ _ => pe_op op_mod (pv 3) (pv 1)))))), ?_⟩
    refine ⟨d, _, hd, trivial, fun od => ?_⟩
    refine ⟨_, rfl, d, od, kv l, rfl, upd_same, fun D hD => ?_⟩
    have nD : D ≠ d := fun e => by
      rw [e, upd_same] at hD
      cases hD
    have hD0 : H D = none := by
      rw [upd_ne nD] at hD
      exact hD
    refine dc_it walk_items (fun i H' => H' D = some (.dK (kv (tidyM c (l.take i)))) ∧ But d H H' ∧ H' d = some (.frz od (.dK (kv l)))) ⟨upd_same, ?_, ?_⟩ (fun i H' _ hP => hP.2.2) ?_ ?_
    · intro b o e n
      rw [upd_ne (ne_of_none e hD0), upd_ne n]
      exact e
    · rw [upd_ne nD.symm]
      exact upd_same
    · rintro i x H1 H2 hi ⟨p1, p2, p3⟩ ⟨t, k, v, rfl, ht, rfl, e1, e2⟩
      obtain ⟨p, ep, rfl, rfl⟩ := kv_item e1 e2
      have nt : D ≠ t := ne_of_none p1 ht
      have ndt : d ≠ t := ne_of_none p3 ht
      refine ⟨t, _, rfl, .inl (.inl upd_same), rfl, ?_⟩
      refine ⟨_, _, rfl, _, _, rfl, rfl, rfl, ?_⟩
      refine ⟨_, rfl, _, rfl, _, _, rfl, rfl, hc, _, rfl, ?_⟩
      have et := tidy_take c ep
      have el : (tidyM c (l.take i)).length ≤ i := Nat.le_trans tidy_len (by rw [List.length_take]; omega)
      rw [kv_len] at hi
      refine ite2 (fun hz => ?_) (fun hz => ?_)
      · have hz' : p.2 % c ≠ 0 := by simpa using hz
        rw [if_pos hz'] at et
        refine ⟨_, rfl, _, rfl, _, rfl, _, _, rfl, rfl, hc, _, Sum.inr p.1, rfl, by rw [upd_ne nt]; exact p1, by rw [kv_len]; omega, ?_, ?_, ?_⟩
        · rw [upd_same, putK_kv, et]
          unfold putT
          rw [tidy_no c hnd ep, if_neg Bool.false_ne_true]
        · intro b o e n
          rw [upd_ne (ne_of_none e hD0), upd_ne (ne_of_none (p2 b o e n) ht)]
          exact p2 b o e n
        · rw [upd_ne nD.symm, upd_ne ndt]
          exact p3
      · have hz' : ¬ p.2 % c ≠ 0 := by simpa using hz
        rw [if_neg hz'] at et
        refine ⟨?_, ?_, ?_⟩
        · rw [upd_ne nt, et]
          exact p1
        · intro b o e n
          rw [upd_ne (ne_of_none (p2 b o e n) ht)]
          exact p2 b o e n
        · rw [upd_ne ndt]
          exact p3
    · rintro H' ⟨p1, p2, p3⟩
      rw [kv_len, List.take_length] at p1
      refine ⟨p3, q _ D (fun b o e => ?_) hD0 (by rw [upd_ne nD]; exact p1)⟩
      by_cases n : b = d
      · rw [n, upd_same, ← hd, ← n, e]
      · rw [upd_ne n]
        exact p2 b o e n
end
end Fp

set_option Elab.async false
set_option linter.all false
set_option maxRecDepth 100000
set_option maxHeartbeats 4000000
namespace Fp
open PySem PySem.Spec PyProof.Rows L2
theorem addT_app (a b x : Tb) : addT (a ++ b) x = addT b (addT a x) := by
  unfold addT
  rw [List.foldl_append]
theorem addT_take {es : Tb} {i : Nat} {p : Str × Int} (e : es[i]? = some p) (a : Tb) : addT (es.take (i + 1)) a = putT (addT (es.take i) a) p.1 (num (addT (es.take i) a) p.1 + p.2) := by
  rw [List.take_add_one, e, addT_app]
  rfl
theorem scl_get {f : Int} {l : Tb} {i : Nat} {p : Str × Int} (e : l[i]? = some p) : (scl f l)[i]? = some (p.1, f * p.2) := by
  unfold scl
  rw [List.getElem?_map, e]
  rfl
theorem scl_len (f : Int) (l : Tb) : (scl f l).length = l.length := List.length_map _
theorem fwd_get {q : Str × Int} {l : Tb} {i : Nat} {p : Str × Int} (e : l[i]? = some p) : (fwd q l)[i]? = some (q.1 ++ p.1, q.2 * p.2) := by
  unfold fwd
  rw [List.getElem?_map, e]
  rfl
theorem fwd_len (q : Str × Int) (l : Tb) : (fwd q l).length = l.length := List.length_map _
theorem prs_take {l m : Tb} {i : Nat} {p : Str × Int} (e : l[i]? = some p) : prs (l.take (i + 1)) m = prs (l.take i) m ++ fwd p m := by
  rw [List.take_add_one, e]
  unfold prs
  rw [List.flatMap_append]
  simp only [Option.toList_some, List.flatMap_cons, List.flatMap_nil, List.append_nil]
  rfl
theorem prs_len (l m : Tb) : (prs l m).length = l.length * m.length := by
  induction l with
  | nil => rw [show prs [] m = [] from rfl]; simp
  | cons p r ih => rw [prs_cons, List.length_append, ih, List.length_map, List.length_cons, Nat.add_mul]; omega
end Fp

set_option Elab.async false
set_option linter.all false
set_option maxRecDepth 100000
set_option maxHeartbeats 4000000
namespace L2
open PySem PySem.Spec PyProof.Rows
/-- a walk over a list or a tuple, told by the heap -/
def iSeqV (K : PySem.W.Frag) (tl : TE) : TI := fun σ H R => tl σ H fun x H1 => ∃ a, x = .ref a ∧ (((∃ xs, SqL K H1 a xs) ∧ R (Itl K a) H1) ∨ ((∃ xs, SqT K H1 a xs) ∧ R (Itt K a) H1))
theorem pi_seqV {X : Cx} {tg : Expr} {l : Expr} {tl : TE} (he : PE X l tl) : PI X tg l (iSeqV X.K tl) := by
  constructor
  intro pins s σ H R I h
  refine thn (he.run pins s σ H _ I h) fun v t ⟨x, G, J, rr, a, e, hh⟩ => ?_
  subst e
  cases rr
  have fp : ∀ b ∈ [t.heap.objs.size], FpOk X pins G b := fun b hb => by
    rw [List.mem_singleton.mp hb]
    exact J.fpOk (Nat.le_refl _) (J.hok.fresh (Nat.le_refl _))
  have go : ∀ o, Inv X pins σ G { t with heap := t.heap.push o } := fun o => J.kept (t' := t.toks) fun b u z => Heap.get?_push_of_some _ z
  rcases hh with ⟨⟨xs, hq⟩, q⟩ | ⟨⟨xs, hq⟩, q⟩
  · obtain ⟨its, _, pl, _⟩ := J.list hq
    exact wpAny_pyIter_list pl.isList ⟨t.heap.objs.size, [t.heap.objs.size], _, _, G, rfl, go _, turn_list a _, ⟨_, Heap.get?_push_size _ rfl, rfl, rfl⟩, fp, q⟩
  · obtain ⟨its, _, pl, _⟩ := J.tuple hq
    exact wpAny_pyIter_tuple (show t.heap.IsTuple a its.toArray from pl) ⟨t.heap.objs.size, [t.heap.objs.size], _, _, G, rfl, go _, turn_tuple a _, ⟨_, Heap.get?_push_size _ rfl, rfl, rfl⟩, fp, q⟩
end L2
namespace Fp
open PySem PySem.Spec PyProof.Rows L2
/-! ### defs that may raise -/
structure OkX (P : Program) (w : World) (K : PySem.W.Frag) (mg : Str → Option Value) (base : Heap) (k : Nat) (x : Str) (ps : List Str) (sp : Sp) : Prop where
  ex : ∃ fd, FnOk P w K mg base (L2.CX P w) k (He.ga K x) fd ps sp ∧ Binds K fd ps []
  g : mg x = some (.ref (He.ga K x))
  kp : PySem.W.keepIn K (.ref (He.ga K x)) = true
/-- called where it doesn't raise -/
theorem pcL {X : Cx} {x : Str} {p pos : Pos} {e : Expr} {es : List Expr} {t : TA} {k : Nat} {ps : List Str} {sp : Sp} (G : OkX X.prog X.w X.K X.mg X.base k x ps sp) (hr : Room k X.A) (ha : PA X (e :: es) t) (hg : Gl X x := by rfl) (hdb : (x == ("__debug__" : Str)) = false := by decide)
    (he : starEach (e :: es) X.env = (false, eval e X.env) :: starEach es X.env := by rfl) (hpl : (backTo pos (starEach es X.env)).any (·.1) = false := by rfl) : PE X (.Call (.Name x p) (e :: es) [] pos) (tCall sp [] E0 t) := by
  obtain ⟨fd, F, b⟩ := G.ex
  exact pe_call F hr hg G.g G.kp b .nil passL ha hdb he hpl
/-- called where it may -/
theorem pcX {X : Cx} {W : WX} (tk : Takes X W) {x : Str} {p pos : Pos} {e : Expr} {es : List Expr} {t : TA} {k : Nat} {ps : List Str} {sp : Sp} (G : OkX X.prog X.w X.K X.mg X.base k x ps sp) (hr : Room k X.A) (ha : PA X (e :: es) t) (hg : Gl X x := by rfl) (hdb : (x == ("__debug__" : Str)) = false := by decide)
    (he : starEach (e :: es) X.env = (false, eval e X.env) :: starEach es X.env := by rfl) (hpl : (backTo pos (starEach es X.env)).any (·.1) = false := by rfl) : PE X (.Call (.Name x p) (e :: es) [] pos) (tCallS sp (fun σ => WE W σ) t) := by
  obtain ⟨fd, F, b⟩ := G.ex
  exact pe_callS F hr hg G.g G.kp b (fun σ => passAt tk σ) ha hdb he hpl
/-! ### bags: what callers know -/
theorem ck_range {c : Int} (h : isCk c) : 2 ≤ c ∧ c ≤ 7 := by
  rcases h with rfl | rfl | rfl | rfl <;> constructor <;> decide
theorem Lk.of_num {c : Int} {l m : Tb} (hl : Nd l) (hm : Nd m) (h : ∀ x, num l x = num m x) : Lk c l m := fun x => by rw [tot_num hl, tot_num hm, h x]
theorem lk_canon {c : Int} {l : Tb} (h : Nd l) : Lk c (canon l) l := Lk.of_num (canon_nd h) h (canon_num h)
theorem lk_tidy {c : Int} {l : Tb} (h : Nd l) : Lk c (tidyM c l) l := fun x => by rw [tot_num (tidy_nd h), tot_num h, num_tidy h, Int.emod_emod_of_dvd _ (Int.dvd_refl c)]
theorem lk_addT {c : Int} {es a : Tb} (h : Nd a) : Lk c (addT es a) (a ++ es) := fun x => by rw [tot_num (nd_addT _ _ h), num_addT, tot_app, tot_num h]
theorem lk_same {c : Int} {m k m' k' : Nat} {l l' : Tb} (hc : 0 < c) (h : VT c m k l) (h' : VT c m' k' l') (e : Lk c l l') : canon l = canon l' :=
  vt_ext h h' fun x => by
    have := e x
    rw [tot_num h.nd, tot_num h'.nd, num_mod hc h, num_mod hc h'] at this
    exact this
theorem lk_diff {c : Int} {m k m' k' : Nat} {l l' : Tb} (hc : 0 < c) (h : VT c m k l) (h' : VT c m' k' l') (e : canon l = canon l') : Lk c l l' := (lk_canon h.nd).symm.trans (e ▸ lk_canon h'.nd)
theorem lk_plus {c f : Int} {m k m' k' : Nat} {l1 l2 : Tb} (hc : 0 < c) (h1 : VT c m k l1) (h2 : VT c m k' l2) : Lk c (plusM c l1 l2 f) (l1 ++ scl f l2) := fun x => by
  rw [tot_num (vt_plusM hc h1 h2 f).nd, num_plusM (m' := 0) hc h1 h2, tot_app, tot_scl, tot_num h1.nd, tot_num h2.nd, Int.emod_emod_of_dvd _ (Int.dvd_refl c)]
theorem lk_prod {c : Int} {m1 k1 m2 k2 : Nat} {l1 l2 : Tb} (hc : 0 < c) (h1 : VT c m1 k1 l1) (h2 : VT c m2 k2 l2) : Lk c (prodM c l1 l2) (prs l1 l2) := fun x => by
  rw [tot_num (vt_prodM hc h1 h2).nd, num_prodM hc h1 h2, Int.emod_emod_of_dvd _ (Int.dvd_refl c)]
/-- a Bag of a table -/
def Bg (K : PySem.W.Frag) (H : Hp) (b : Addr) (c : Int) (m k : Nat) (l : Tb) : Prop := BagAt K H b c (canon l) ∧ VT c m k l
theorem Bg.same {K : PySem.W.Frag} {H H' : Hp} {b : Addr} {c : Int} {m k : Nat} {l : Tb} (h : Bg K H b c m k l) (s : Same H H') : Bg K H' b c m k l := ⟨h.1.same s, h.2⟩
theorem Bg.mono {K : PySem.W.Frag} {H : Hp} {b : Addr} {c : Int} {m k m' k' : Nat} {l : Tb} (h : Bg K H b c m k l) (h1 : m ≤ m') (h2 : k ≤ k') : Bg K H b c m' k' l := ⟨h.1, h.2.mono h1 h2⟩
theorem putF_flds (c : Int) (t t' : Addr) : putF "words" (.ref t') (flds c t) = flds c t' := by
  rw [flds_eq, flds_eq]
  show (if ("clock" : Str) = "words" then (("words" : Str), V.ref t') :: [("words", V.ref t)] else (("clock" : Str), V.int c) :: putF "words" (.ref t') [("words", V.ref t)]) = _
  rw [if_neg kwc]
  show (("clock" : Str), V.int c) :: (if ("words" : Str) = "words" then [(("words" : Str), V.ref t')] else _) = _
  rw [if_pos rfl]
section
variable {P : Program} {w : World} {K : PySem.W.Frag} {mg : Str → Option Value} {base : Heap}
def spTable (K : PySem.W.Frag) : Sp := fun vs H Q _ => ∃ (a : Addr) (c : Int) (L : Tb), vs = [.ref a] ∧ BagAt K H a c L ∧ Nd L ∧ ∀ D, H D = none → Q (.ref D) (upd H D (.dK (kv L)))
theorem pairs_kv {K : PySem.W.Frag} {H : Hp} {ps : List Addr} {L : Tb} (h : Paired (fun p (q : Str × Int) => H p = some (.tup [.str q.1, .int q.2])) ps L) : Paired (fun p (x : Key × V) => SqT K H p [kV x.1, x.2]) ps (kv L) := by
  induction h with
  | nil => exact .nil
  | cons e _ ih => exact .cons (.inl (.inl e)) ih
abbrev nTable : List Str := ["bag"]
theorem sc_table_of : FnScope nTable nTable (defScope s_table_of) := ⟨rfl, rfl, rfl, by decide +kernel, rfl, by decide +kernel, by decide +kernel⟩
theorem ok_table_of (T : Top K mg) : Ok P w K mg base 1 "table_of" nTable (spTable K) := by
  obtain ⟨fd, F⟩ := fn_table_of T
  refine ⟨⟨fd, ?_, F.bindsN fun _ _ _ _ _ _ us hl => match us, hl with | [_], _ => rfl⟩, g_table_of T, F.kp⟩
  refine F.ok sc_table_of (fun vs H Q E h => ?_) (fun cdv A outer s H vs Q E hr h => ?_)
  · obtain ⟨a, c, L, rfl, _⟩ := h
    rfl
  · obtain ⟨a, c, L, rfl, ⟨dx, t, ea, ps, o, hps, hpt, hpr⟩, hnd, q⟩ := h
    refine ⟨_, PSs.nox (pss_one (ps_ret (pe_callTy (call_dictPT rfl) (by rfl) (f_dict T) (by decide +kernel) (pa_cons (pe_fld (pv 0) rfl) pa_nil)))), ?_⟩
    refine ⟨_, rfl, a, _, dx, _, _, rfl, ea, cls_Bag T, na_Bag_words T, flds_words _ _, ?_⟩
    refine ⟨t, o, ps, kv L, rfl, hps, hpt, pairs_kv hpr, fun D nD => ?_⟩
    rw [merge_kv hnd]
    exact q D nD
def spBagOf (K : PySem.W.Frag) : Sp := fun vs H Q _ => ∃ (c : Int) (d : Addr) (l : Tb), vs = [.int c, .ref d] ∧ isCk c ∧ H d = some (.dK (kv l)) ∧ Nd l ∧ (∀ p ∈ l, p.1.length ≤ 1000000) ∧ l.length ≤ 1000000 ∧
  ∀ H' b, Same H H' → H b = none → BagAt K H' b c (canon (tidyM c l)) → Q (.ref b) H'
abbrev nBagOf : List Str := ["clock", "table", "bag"]
theorem sc_bag_of : FnScope nBagOf ["clock", "table"] (defScope s_bag_of) := ⟨rfl, rfl, rfl, by decide +kernel, rfl, by decide +kernel, by decide +kernel⟩
theorem made_dict {H : Hp} {d x dx : Addr} {o u v : HO} (hd : H d = some o) (hx : H x = none) (hdx : H dx = none) : (upd (upd H dx u) x v) d = some o := by
  rw [upd_ne (ne_of_none hd hx), upd_ne (ne_of_none hd hdx)]
  exact hd
theorem made_same {H H' : Hp} {x dx : Addr} {u v : HO} (k : But x (upd (upd H dx u) x v) H') (hx : H x = none) (hdx : H dx = none) : Same H H' := fun b o e => by
  refine k b o ?_ (ne_of_none e hx)
  rw [upd_ne (ne_of_none e hx), upd_ne (ne_of_none e hdx)]
  exact e
theorem ok_bag_of (T : Top K mg) : Ok P w K mg base 7 "bag_of" ["clock", "table"] (spBagOf K) := by
  obtain ⟨fd, F⟩ := fn_bag_of T
  refine ⟨⟨fd, ?_, F.bindsN fun _ _ _ _ _ _ us hl => match us, hl with | [_, _], _ => rfl⟩, g_bag_of T, F.kp⟩
  refine F.ok sc_bag_of (fun vs H Q E h => ?_) (fun cdv A outer s H vs Q E hr h => ?_)
  · obtain ⟨c, d, l, rfl, _⟩ := h
    rfl
  · obtain ⟨c, d, l, rfl, hc, hd, hnd, hwl, hll, q⟩ := h
    have nd := sc_bag_of.nd
    have hu := hu_of hr
    have hr1 : Room 1 _ := hr.mono (by decide)
    have hr2 : Room 2 _ := hr.mono (by decide)
    obtain ⟨hc2, hc7⟩ := ck_range hc
    refine ⟨_, PSs.nox (pss_cons (ps_set (i := 2) nd rfl (Or.inl rfl) (pbag T hr (pa_cons (pv 0) (pa_cons pe_dnewK pa_nil))))
      (pss_cons (ps_fld (pv 2) (pc (ok_pairs_of T) hr2 (pa_cons (pc (ok_tidied T) hr1 (pa_cons (pv 1) (pa_cons (pv 0) pa_nil))) pa_nil)) rfl)
      (pss_one (ps_ret (pv 2))))), ?_⟩
    refine ⟨_, rfl, fun D hD b dx hb hdx ne => ?_⟩
    refine ⟨b, D, dx, c, [], rfl, upd_same, hc, made_dict upd_same hb hdx, (vt_nil c 12).mono (Nat.le_refl _) (by decide), fun H1 k1 hb1 => ⟨rfl, ?_⟩⟩
    have s1 : Same H H1 := (same_upd hD).trans (made_same k1 hb hdx)
    have hb0 : H b = none := (same_upd hD).free hb
    refine ⟨_, rfl, _, rfl, d, c, l, rfl, by omega, s1 _ _ hd, hnd, hll, fun H2 D2 s2 nD2 eD2 => ?_⟩
    refine ⟨D2, tidyM c l, rfl, eD2, tidy_nd hnd, fun p hp => ?_, Nat.le_trans tidy_len hll, fun H3 t s3 nt wt => ?_⟩
    · obtain ⟨p', h1, rfl, _⟩ := tidy_keys hp
      exact hwl p' h1
    obtain ⟨dx', t0, eb, w0⟩ := (hb1.same s2).same s3
    refine ⟨_, rfl, b, _, dx', _, rfl, eb, cls_Bag T, na_Bag_words T, by rw [flds_eq]; show 2 < 1000; decide, ?_⟩
    refine ⟨_, rfl, q _ b (fun y o e => ?_) hb0 ⟨dx', t, ?_, ?_⟩⟩
    · rw [upd_ne (ne_of_none e hb0)]
      exact s3 _ _ (s2 _ _ (s1 _ _ e))
    · rw [upd_same, putF_flds]
      rfl
    · refine wt.but (a := b) but_upd (fun e => ?_) fun xs z => ?_
      · obtain ⟨ps, o, h1, _⟩ := wt
        rw [e, eb] at h1
        cases h1
      · rw [eb] at z
        cases z
/-! ### unlike clocks -/
def spClocks (K : PySem.W.Frag) : Sp := fun vs H Q E => ∃ (a b : Addr) (c c' : Int) (L M : Tb), vs = [.ref a, .ref b] ∧ BagAt K H a c L ∧ BagAt K H b c' M ∧ (c = c' → Q .non H) ∧ (c ≠ c' → E (.ref (He.ga K "UnlikeClocks")) none H)
abbrev nClocks : List Str := ["one", "other"]
end
end Fp

set_option Elab.async false
set_option linter.all false
set_option maxRecDepth 100000
set_option maxHeartbeats 4000000
namespace Fp
open PySem PySem.Spec PyProof.Rows L2
abbrev invs : WTab := [(2, [0, 1]), (3, [0, 1, 2]), (5, [0, 1, 3, 2, 4]), (7, [0, 1, 4, 5, 2, 3, 6])]
theorem inv_get {c : Int} (hc : isCk c) : ∃ ns : List Int, (c, ns) ∈ invs ∧ ∀ r : Nat, (r : Int) < c → ∃ m : Int, ns[r]? = some m ∧ 0 ≤ m ∧ m < c ∧ (r ≠ 0 → ((r : Int) * m) % c = 1 ∧ 1 ≤ m) := by
  rcases hc with rfl | rfl | rfl | rfl
  · refine ⟨[0, 1], by decide, fun r hr => ?_⟩
    have hr : r < 2 := by omega
    match r, hr with
    | 0, _ => exact ⟨0, rfl, by decide, by decide, fun h => absurd rfl h⟩
    | 1, _ => exact ⟨1, rfl, by decide, by decide, fun _ => by decide⟩
  · refine ⟨[0, 1, 2], by decide, fun r hr => ?_⟩
    have hr : r < 3 := by omega
    match r, hr with
    | 0, _ => exact ⟨0, rfl, by decide, by decide, fun h => absurd rfl h⟩
    | 1, _ => exact ⟨1, rfl, by decide, by decide, fun _ => by decide⟩
    | 2, _ => exact ⟨2, rfl, by decide, by decide, fun _ => by decide⟩
  · refine ⟨[0, 1, 3, 2, 4], by decide, fun r hr => ?_⟩
    have hr : r < 5 := by omega
    match r, hr with
    | 0, _ => exact ⟨0, rfl, by decide, by decide, fun h => absurd rfl h⟩
    | 1, _ => exact ⟨1, rfl, by decide, by decide, fun _ => by decide⟩
    | 2, _ => exact ⟨3, rfl, by decide, by decide, fun _ => by decide⟩
    | 3, _ => exact ⟨2, rfl, by decide, by decide, fun _ => by decide⟩
    | 4, _ => exact ⟨4, rfl, by decide, by decide, fun _ => by decide⟩
  · refine ⟨[0, 1, 4, 5, 2, 3, 6], by decide, fun r hr => ?_⟩
    have hr : r < 7 := by omega
    match r, hr with
    | 0, _ => exact ⟨0, rfl, by decide, by decide, fun h => absurd rfl h⟩
    | 1, _ => exact ⟨1, rfl, by decide, by decide, fun _ => by decide⟩
    | 2, _ => exact ⟨4, rfl, by decide, by decide, fun _ => by decide⟩
    | 3, _ => exact ⟨5, rfl, by decide, by decide, fun _ => by decide⟩
    | 4, _ => exact ⟨2, rfl, by decide, by decide, fun _ => by decide⟩
    | 5, _ => exact ⟨3, rfl, by decide, by decide, fun _ => by decide⟩
    | 6, _ => exact ⟨6, rfl, by decide, by decide, fun _ => by decide⟩
section
variable {P : Program} {w : World} {K : PySem.W.Frag} {mg : Str → Option Value} {base : Heap}
/-- the number that gives 1 -/
def spInv : Sp := fun vs H Q _ => ∃ (n c : Int), vs = [.int n, .int c] ∧ isCk c ∧ ∀ m : Int, 0 ≤ m → m < c → (n % c ≠ 0 → (n * m) % c = 1 ∧ 1 ≤ m) → Q (.int m) H
abbrev nInv : List Str := ["number", "clock"]
theorem sc_inverse : FnScope nInv nInv (defScope s_inverse) := ⟨rfl, rfl, rfl, by decide +kernel, rfl, by decide +kernel, by decide +kernel⟩
theorem ok_inverse (T : Top K mg) : Ok P w K mg base 1 "inverse" nInv spInv := by
  obtain ⟨fd, F⟩ := fn_inverse T
  refine ⟨⟨fd, ?_, F.bindsN fun _ _ _ _ _ _ us hl => match us, hl with | [_, _], _ => rfl⟩, g_inverse T, F.kp⟩
  refine F.ok sc_inverse (fun vs H Q E h => ?_) (fun cdv A outer s H vs Q E hr h => ?_)
  · obtain ⟨n, c, rfl, _⟩ := h
    rfl
  · obtain ⟨n, c, rfl, hc, q⟩ := h
    obtain ⟨hc2, hc7⟩ := ck_range hc
    refine ⟨_, PSs.nox (pss_one (ps_ret (pe_ix ix_tup (pe_wd (t := invs) (by decide) (pe_glob (v := .ref (He.ga K "INVERSES")) rfl (g_INVERSES T) rfl) (pv 1) (fun _ _ => rfl)) (pe_op op_mod (pv 0) (pv 1)) (fun _ _ => rfl)))), ?_⟩
    obtain ⟨ns, h1, h2⟩ := inv_get hc
    have m0 := Int.emod_nonneg n (show c ≠ 0 by omega)
    have m1 := Int.emod_lt_of_pos n (show 0 < c by omega)
    obtain ⟨r, er⟩ : ∃ r : Nat, n % c = r := ⟨(n % c).toNat, (Int.toNat_of_nonneg m0).symm⟩
    obtain ⟨m, e1, e2, e3, e4⟩ := h2 r (by omega)
    refine ⟨_, rfl, He.ga K "INVERSES", c, ns, rfl, w_INVERSES T, rfl, h1, fun b hb => ?_⟩
    refine ⟨_, rfl, _, rfl, _, _, rfl, rfl, (by show 0 < c; omega), b, ns.map V.int, r, .int m, rfl, ?_, tupO_sq hb _, atI_nat (by rw [List.getElem?_map, e1]; rfl), q m e2 e3 fun hz => ?_⟩
    · show V.int (n % c) = _
      rw [er]
    · have := e4 (by omega)
      rw [Int.mul_emod, er, Int.emod_eq_of_lt e2 e3]
      exact this
def spScaled : Sp := fun vs H Q _ => ∃ (d : Addr) (f c : Int) (l : Tb), vs = [.ref d, .int f, .int c] ∧ 0 < c ∧ c ≤ 7 ∧ H d = some (.dK (kv l)) ∧ Nd l ∧ (∀ p ∈ l, 1 ≤ p.2 ∧ p.2 < c) ∧ l.length ≤ 1000000 ∧ ∀ H' D, Same H H' → H D = none → H' D = some (.dK (kv (tidyM c (scl f l)))) → Q (.ref D) H'
abbrev nScaled : List Str := ["table", "factor", "clock", "word", "number"]
theorem sc_scaled : FnScope nScaled ["table", "factor", "clock"] (defScope s_scaled) := ⟨rfl, rfl, rfl, by decide +kernel, rfl, by decide +kernel, by decide +kernel⟩
theorem scl_nd {f : Int} {l : Tb} (h : Nd l) : Nd (scl f l) := by
  unfold Nd scl
  rw [List.map_map]
  exact h
theorem scl_take {f : Int} {l : Tb} {i : Nat} {p : Str × Int} (e : l[i]? = some p) : scl f (l.take (i + 1)) = scl f (l.take i) ++ [(p.1, f * p.2)] := by
  rw [List.take_add_one, e]
  unfold scl
  rw [List.map_append]
  rfl
theorem has_take {l : Tb} (h : Nd l) {i : Nat} {p : Str × Int} (e : l[i]? = some p) : has (l.take i) p.1 = false := by
  cases z : has (l.take i) p.1 with
  | false => rfl
  | true =>
    exfalso
    have h1 : Nd (l.take (i + 1)) := by
      unfold Nd
      rw [List.map_take]
      exact (List.take_sublist _ _).nodup h
    unfold Nd at h1
    rw [List.take_add_one, e, List.map_append] at h1
    exact (List.nodup_append.mp h1).2.2 p.1 (has_iff.mp z) p.1 (by simp) rfl
theorem ok_scaled (T : Top K mg) : Ok P w K mg base 2 "scaled" ["table", "factor", "clock"] spScaled := by
  obtain ⟨fd, F⟩ := fn_scaled T
  refine ⟨⟨fd, ?_, F.bindsN fun _ _ _ _ _ _ us hl => match us, hl with | [_, _, _], _ => rfl⟩, g_scaled T, F.kp⟩
  refine F.ok sc_scaled (fun vs H Q E h => ?_) (fun cdv A outer s H vs Q E hr h => ?_)
  · obtain ⟨d, f, c, l, rfl, _⟩ := h
    rfl
  · obtain ⟨d, f, c, l, rfl, hc, hc7, hd, hnd, hnu, hll, q⟩ := h
    have nd := sc_scaled.nd
    have hu := hu_of hr
    have hs : sizeLine = 16777216 := sizeLine_eq
    refine ⟨_, PSs.nox (pss_one (ps_ret (pc (ok_tidied T) hr (pa_cons (pe_lock (pe_dc (own := [("word", 3), ("number", 4)]) (g := gPair K 3 4) (tt := tYes) (tk := tVar 3) (tv := tOp (rI CMul fun i j => .int (i * j)) (tVar 4) (tVar 1)) rfl nd (pi_items (pv 0)) (blkOk_by (N := nScaled) (sc := defScope s_scaled) (by decide +kernel))
      (fun _ _ _ _ _ => pg_tup rfl (pgs_cons (pg_name (i := 3) nd rfl (Or.inl rfl)) (pgs_cons (pg_name (i := 4) nd rfl (Or.inl rfl)) pgs_nil)))
      (fun _ _ _ _ _ => pts_nil) (fun _ _ _ _ _ => pv 3) (fun _ _ _ _ _ => pe_op op_mul (pv 4) (pv 1)))) (pa_cons (pv 2) pa_nil))))), ?_⟩
    refine ⟨d, _, hd, trivial, fun od => ?_⟩
    refine ⟨_, rfl, d, od, kv l, rfl, upd_same, fun D hD => ?_⟩
    have nD : D ≠ d := fun e => by
      rw [e, upd_same] at hD
      cases hD
    have hD0 : H D = none := by
      rw [upd_ne nD] at hD
      exact hD
    refine dc_it walk_items (fun i H' => H' D = some (.dK (kv (scl f (l.take i)))) ∧ But d H H' ∧ H' d = some (.frz od (.dK (kv l)))) ⟨upd_same, ?_, ?_⟩ (fun i H' _ hP => hP.2.2) ?_ ?_
    · intro b o e n
      rw [upd_ne (ne_of_none e hD0), upd_ne n]
      exact e
    · rw [upd_ne nD.symm]
      exact upd_same
    · rintro i x H1 H2 hi ⟨p1, p2, p3⟩ ⟨t, k, v, rfl, ht, rfl, e1, e2⟩
      obtain ⟨p, ep, rfl, rfl⟩ := kv_item e1 e2
      have hn := hnu p (List.mem_of_getElem? ep)
      have nt : D ≠ t := ne_of_none p1 ht
      have ndt : d ≠ t := ne_of_none p3 ht
      rw [kv_len] at hi
      refine ⟨t, _, rfl, .inl (.inl upd_same), rfl, ?_⟩
      refine ⟨_, _, rfl, _, _, rfl, rfl, rfl, ?_⟩
      have hz : has (scl f (l.take i)) p.1 = false := by
        rw [← Bool.not_eq_true, has_iff]
        intro hm
        have : p.1 ∈ (l.take i).map (·.1) := by
          unfold scl at hm
          rw [List.map_map] at hm
          exact hm
        rw [← has_iff, has_take hnd ep] at this
        cases this
      refine ⟨_, rfl, _, rfl, _, rfl, _, _, rfl, rfl, .inl ⟨by omega, by omega⟩, _, Sum.inr p.1, rfl, by rw [upd_ne nt]; exact p1, by rw [kv_len, scl_len, List.length_take]; omega, ?_, ?_, ?_⟩
      · rw [upd_same, putK_kv, scl_take ep, Int.mul_comm p.2 f]
        unfold putT
        rw [hz, if_neg Bool.false_ne_true]
      · intro b o e n
        rw [upd_ne (ne_of_none e hD0), upd_ne (ne_of_none (p2 b o e n) ht)]
        exact p2 b o e n
      · rw [upd_ne nD.symm, upd_ne ndt]
        exact p3
    · rintro H' ⟨p1, p2, p3⟩
      rw [kv_len, List.take_length] at p1
      refine ⟨p3, ?_⟩
      have base' : Same H (upd H' d (.dK (kv l))) := fun b o e => by
        by_cases n : b = d
        · rw [n, upd_same, ← hd, ← n, e]
        · rw [upd_ne n]
          exact p2 b o e n
      exact ⟨_, rfl, D, c, _, rfl, hc, by rw [upd_ne nD]; exact p1, scl_nd hnd, by rw [scl_len]; exact hll, fun H2 D2 s2 n2 e2 => q H2 D2 (base'.trans s2) (base'.free n2) e2⟩
end
end Fp

set_option Elab.async false
set_option linter.all false
set_option maxRecDepth 100000
set_option maxHeartbeats 4000000
namespace Fp
open PySem PySem.Spec PyProof.Rows L2
section
variable {P : Program} {w : World} {K : PySem.W.Frag} {mg : Str → Option Value} {base : Heap}
def spWords : Sp := fun vs H Q _ => ∃ (d : Addr) (l : Tb), vs = [.ref d] ∧ H d = some (.dK (kv l)) ∧ Nd l ∧ (∀ p ∈ l, p.1.length ≤ 1000000) ∧ l.length ≤ 1000000 ∧ ∀ H' t, Same H H' → H t = none → WordsAt H' t (canon l) → Q (.ref t) H'
abbrev nWords : List Str := ["_law_bag", "_law_word_here"]
/-- told just so -/
def spIs (K : PySem.W.Frag) : Sp := fun vs H Q _ => ∃ (b d : Addr) (c : Int) (l : Tb), vs = [.ref b, .int c, .ref d] ∧ BagAt K H b c (canon l) ∧ H d = some (.dK (kv l)) ∧ Nd l ∧ (∀ p ∈ l, p.1.length ≤ 1000000) ∧ l.length ≤ 1000000 ∧ ∀ H', Same H H' → Q (.bl true) H'
abbrev nIs : List Str := ["_law_told_here", "_law_clock_here", "_law_bag"]
end
end Fp

set_option Elab.async false
set_option linter.all false
set_option maxRecDepth 100000
set_option maxHeartbeats 4000000
namespace Fp
open PySem PySem.Spec PyProof.Rows L2
/-- the pairs at a tuple, told by place -/
theorem WordsAt.get {H : Hp} {t : Addr} {L : Tb} (h : WordsAt H t L) : ∃ (ps : List Addr) (o : Obj), H t = some (.frz o (.tup (ps.map V.ref))) ∧ ps.length = L.length ∧ ∀ (i : Nat) (q : Str × Int), L[i]? = some q → ∃ p, ps[i]? = some p ∧ H p = some (.tup [.str q.1, .int q.2]) := by
  obtain ⟨ps, o, h1, _, h3⟩ := h
  refine ⟨ps, o, h1, ?_, ?_⟩
  · clear h1
    induction h3 with
    | nil => rfl
    | cons _ _ ih => rw [List.length_cons, List.length_cons, ih]
  · clear h1
    induction h3 with
    | nil => intro i q e; simp at e
    | @cons p q0 ps L e _ ih =>
      intro i q eq
      cases i with
      | zero =>
        have : q0 = q := Option.some.inj eq
        exact ⟨p, rfl, this ▸ e⟩
      | succ i => exact ih i q eq
section
variable {P : Program} {w : World} {K : PySem.W.Frag} {mg : Str → Option Value} {base : Heap}
def spSomething (K : PySem.W.Frag) : Sp := fun vs H Q E => ∃ (a : Addr) (c : Int) (L : Tb), vs = [.ref a] ∧ BagAt K H a c L ∧ (L ≠ [] → Q .non H) ∧ (L = [] → E (.ref (He.ga K "IsNothing")) none H)
end
end Fp

set_option Elab.async false
set_option linter.all false
set_option maxRecDepth 100000
set_option maxHeartbeats 2000000
/-! heaps in arrays: what one exchange keeps -/
namespace Fp
section
variable {α : Type} {le : α → α → Prop}
/-- two places exchanged -/
def swapA (X : Array α) (i j : Nat) (x y : α) : Array α := (X.setIfInBounds i y).setIfInBounds j x
theorem swapA_size (X : Array α) (i j : Nat) (x y : α) : (swapA X i j x y).size = X.size := by
  unfold swapA
  rw [Array.size_setIfInBounds, Array.size_setIfInBounds]
theorem swapA_get {X : Array α} {i j : Nat} {x y : α} (hi : i < X.size) (hj : j < X.size) (k : Nat) : (swapA X i j x y)[k]? = if k = j then some x else if k = i then some y else X[k]? := by
  unfold swapA
  rw [Array.getElem?_setIfInBounds]
  by_cases h1 : j = k
  · subst h1
    rw [if_pos rfl, if_pos rfl, if_pos (by rw [Array.size_setIfInBounds]; exact hj)]
  · rw [if_neg h1, if_neg (fun z => h1 z.symm), Array.getElem?_setIfInBounds]
    by_cases h2 : i = k
    · subst h2
      rw [if_pos rfl, if_pos hi, if_pos rfl]
    · rw [if_neg h2, if_neg (fun z => h2 z.symm)]
theorem swapA_perm {X : Array α} {i j : Nat} {x y : α} (hx : X[i]? = some x) (hy : X[j]? = some y) : (swapA X i j x y).toList.Perm X.toList := by
  obtain ⟨hi, ex⟩ := Array.getElem?_eq_some_iff.mp hx
  obtain ⟨hj, ey⟩ := Array.getElem?_eq_some_iff.mp hy
  have e : swapA X i j x y = X.swap i j hi hj := by
    apply Array.ext_getElem?
    intro k
    rw [swapA_get hi hj, Array.getElem?_swap, ex, ey]
    by_cases h1 : k = j
    · subst h1
      simp
    · by_cases h2 : k = i
      · subst h2
        simp [h1, Ne.symm h1]
      · simp [h1, h2, Ne.symm h1, Ne.symm h2]
  rw [e]
  exact Array.perm_iff_toList_perm.mp (Array.swap_perm hi hj)
/-- the edge above a place is in order -/
def Ed (le : α → α → Prop) (X : Array α) (i : Nat) : Prop := ∀ v p, X[i]? = some v → X[(i - 1) / 2]? = some p → le p v
/-- a place below a top -/
inductive Sub (top : Nat) : Nat → Prop
  | top : Sub top top
  | down {p c : Nat} (h : Sub top p) (h1 : 1 ≤ c) (h2 : (c - 1) / 2 = p) : Sub top c
theorem Sub.le_ {top pos : Nat} (h : Sub top pos) : top ≤ pos := by
  induction h with
  | top => exact Nat.le_refl _
  | down _ h1 h2 ih => omega
theorem Sub.up {top pos : Nat} (h : Sub top pos) (hp : top < pos) : Sub top ((pos - 1) / 2) := by
  cases h with
  | top => omega
  | down h h1 h2 => rw [h2]; exact h
theorem Sub.tp {top pos : Nat} (h : Sub top pos) : top ≤ pos ∧ (top = pos ∨ top ≤ (pos - 1) / 2) := by
  have := h.le_
  by_cases e : top = pos
  · exact ⟨this, .inl e⟩
  · exact ⟨this, .inr (h.up (by omega)).le_⟩
/-- all edges but those at one place, from a top on; what stands below the place is behind what stands above it -/
structure Dn (le : α → α → Prop) (X : Array α) (top pos : Nat) : Prop where
  ed : ∀ i, 1 ≤ i → top ≤ (i - 1) / 2 → (i - 1) / 2 ≠ pos → i ≠ pos → Ed le X i
  br : ∀ c, 1 ≤ c → (c - 1) / 2 = pos → top < pos → ∀ v p, X[c]? = some v → X[(pos - 1) / 2]? = some p → le p v
  sb : Sub top pos
/-- all edges but the one above a place -/
structure Up (le : α → α → Prop) (X : Array α) (top pos : Nat) : Prop where
  ed : ∀ i, 1 ≤ i → top ≤ (i - 1) / 2 → i ≠ pos → Ed le X i
  br : ∀ c, 1 ≤ c → (c - 1) / 2 = pos → top < pos → ∀ v p, X[c]? = some v → X[(pos - 1) / 2]? = some p → le p v
  sb : Sub top pos
def Hpd (le : α → α → Prop) (X : Array α) (top : Nat) : Prop := ∀ i, 1 ≤ i → top ≤ (i - 1) / 2 → Ed le X i
theorem Dn.leaf {X : Array α} {top pos : Nat} (h : Dn le X top pos) (hp : X.size / 2 ≤ pos) : Up le X top pos := by
  refine ⟨fun i h1 h2 h3 => ?_, fun c h1 h2 h3 v p e1 e2 => ?_, h.sb⟩
  · by_cases hq : (i - 1) / 2 = pos
    · intro v p e1 e2
      have := (Array.getElem?_eq_some_iff.mp e1).1
      omega
    · exact h.ed i h1 h2 hq h3
  · have := (Array.getElem?_eq_some_iff.mp e1).1
    omega
theorem Up.stop {X : Array α} {top pos : Nat} (h : Up le X top pos) (hp : pos ≤ top ∨ Ed le X pos) : Hpd le X top := fun i h1 h2 => by
  by_cases e : i = pos
  · subst e
    rcases hp with hp | hp
    · have := h.sb.tp
      omega
    · exact hp
  · exact h.ed i h1 h2 e
/-- one place down: the lesser of two, or the only one, comes up -/
theorem Dn.step {X : Array α} {top pos c : Nat} {v x : α} (h : Dn le X top pos) (hc : (c - 1) / 2 = pos) (c1 : 1 ≤ c) (hv : X[pos]? = some v) (hx : X[c]? = some x) (hmin : ∀ d y, 1 ≤ d → (d - 1) / 2 = pos → d ≠ c → X[d]? = some y → le x y) :
    Dn le (swapA X c pos x v) top c := by
  obtain ⟨hcs, _⟩ := Array.getElem?_eq_some_iff.mp hx
  obtain ⟨hps, _⟩ := Array.getElem?_eq_some_iff.mp hv
  have htp := h.sb.tp
  have get := fun k => swapA_get (x := x) (y := v) hcs hps k
  have hne : c ≠ pos := by omega
  refine ⟨fun i h1 h2 h3 h4 u p e1 e2 => ?_, fun d h1 h2 h3 u p e1 e2 => ?_, .down h.sb c1 hc⟩
  · rw [get] at e1 e2
    by_cases hi : i = pos
    · subst hi
      rw [if_pos rfl] at e1
      have hpp : (i - 1) / 2 ≠ i := by omega
      rw [if_neg hpp, if_neg h3] at e2
      cases e1
      exact h.br c c1 hc (by omega) x p hx e2
    · rw [if_neg hi, if_neg h4] at e1
      by_cases hq : (i - 1) / 2 = pos
      · rw [if_pos hq] at e2
        cases e2
        exact hmin i u h1 hq h4 e1
      · rw [if_neg hq, if_neg h3] at e2
        exact h.ed i h1 h2 hq hi u p e1 e2
  · rw [get] at e1 e2
    have hd1 : d ≠ pos := by omega
    have hd2 : d ≠ c := by omega
    rw [if_neg hd1, if_neg hd2] at e1
    rw [hc, if_pos rfl] at e2
    cases e2
    exact h.ed d h1 (by omega) (by omega) hd1 u x e1 (by rw [h2]; exact hx)
/-- one place up -/
theorem Up.step (tot : ∀ a b, le a b ∨ le b a) (tr : ∀ a b c, le a b → le b c → le a c) {X : Array α} {top pos : Nat} {v x : α} (h : Up le X top pos) (ht : top < pos) (hv : X[pos]? = some v) (hx : X[(pos - 1) / 2]? = some x) (hlt : ¬ le x v) :
    Up le (swapA X ((pos - 1) / 2) pos x v) top ((pos - 1) / 2) := by
  obtain ⟨hcs, _⟩ := Array.getElem?_eq_some_iff.mp hx
  obtain ⟨hps, _⟩ := Array.getElem?_eq_some_iff.mp hv
  have htp := h.sb.tp
  have htq := (h.sb.up ht).tp
  have get := fun k => swapA_get (x := x) (y := v) hcs hps k
  have hne : (pos - 1) / 2 ≠ pos := by omega
  have hvx : le v x := (tot v x).resolve_right hlt
  have hE : ∀ i u, 1 ≤ i → (i - 1) / 2 = (pos - 1) / 2 → i ≠ pos → X[i]? = some u → le x u := fun i u h1 h2 h3 e => h.ed i h1 (by omega) h3 u x e (by rw [h2]; exact hx)
  refine ⟨fun i h1 h2 h3 u p e1 e2 => ?_, fun d h1 h2 h3 u p e1 e2 => ?_, h.sb.up ht⟩
  · rw [get] at e1 e2
    by_cases hi : i = pos
    · subst hi
      rw [if_pos rfl] at e1
      rw [if_neg hne, if_pos rfl] at e2
      cases e1
      cases e2
      exact hvx
    · rw [if_neg hi, if_neg h3] at e1
      by_cases hq : (i - 1) / 2 = pos
      · rw [if_pos hq] at e2
        cases e2
        exact h.br i h1 hq ht u x e1 hx
      · rw [if_neg hq] at e2
        by_cases hq2 : (i - 1) / 2 = (pos - 1) / 2
        · rw [if_pos hq2] at e2
          cases e2
          exact tr _ _ _ hvx (hE i u h1 hq2 hi e1)
        · rw [if_neg hq2] at e2
          exact h.ed i h1 h2 hi u p e1 e2
  · rw [get] at e1 e2
    have hpp : ((pos - 1) / 2 - 1) / 2 ≠ pos := by omega
    have hpq : ((pos - 1) / 2 - 1) / 2 ≠ (pos - 1) / 2 := by omega
    rw [if_neg hpp, if_neg hpq] at e2
    have hpx : le p x := h.ed ((pos - 1) / 2) (by omega) (by omega) hne x p hx e2
    by_cases hd : d = pos
    · rw [if_pos hd] at e1
      cases e1
      exact hpx
    · rw [if_neg hd, if_neg (by omega)] at e1
      exact tr _ _ _ hpx (hE d u h1 h2 hd e1)
/-- the first is the least -/
theorem Hpd.least (rf : ∀ a, le a a) (tr : ∀ a b c, le a b → le b c → le a c) {X : Array α} (h : Hpd le X 0) {m : α} (hm : X[0]? = some m) : ∀ (i : Nat) (v : α), X[i]? = some v → le m v := by
  intro i
  induction i using Nat.strongRecOn with
  | _ i ih =>
    intro v e
    by_cases hi : i = 0
    · subst hi
      rw [hm] at e
      cases e
      exact rf m
    · obtain ⟨hs, _⟩ := Array.getElem?_eq_some_iff.mp e
      have hps : (i - 1) / 2 < X.size := by omega
      have ep : X[(i - 1) / 2]? = some X[(i - 1) / 2] := Array.getElem?_eq_getElem hps
      exact tr _ _ _ (ih _ (by omega) _ ep) (h i (by omega) (Nat.zero_le _) v _ e ep)
end
end Fp

set_option Elab.async false
set_option linter.all false
set_option maxRecDepth 100000
set_option maxHeartbeats 2000000
/-! the heap's moves, run: ranks (of words) in a list -/
namespace Fp
open PySem PySem.Spec PyProof.Rows
theorem plain_sift : plainId "_heapq.heapify.sift" = true := by decide +kernel
theorem entry_sift : entryFor table "_heapq.heapify.sift" = some Builtin.«_heapq.heapify.sift» := entryFor_of_fast (by kernel_rfl)
def lob (X : Array Value) (n : Nat) : Obj := { cls := .type "list", dict := none, data := .seq X n, slots := #[] }
/-- a word's rank as an object -/
def RkAt (h : Heap) (v : Value) (x : Str) : Prop := ∃ p o t1 t2 n, v = .ref p ∧ h.get? p = some o ∧ o.cls = .type "tuple" ∧ o.data = .seq #[.int (-(x.length : Int)) t1, .str x t2] n
theorem RkAt.reads {h : Heap} {v : Value} {x : Str} (r : RkAt h v x) : Reads h v (rk x) [] := by
  obtain ⟨p, o, t1, t2, n, rfl, h1, h2, h3⟩ := r
  exact Reads.tuple h1 h2 h3 (ReadsAll.cons (Reads.int _ _) (ReadsAll.cons (Reads.str x t2) ReadsAll.nil))
def StH (a : Addr) (s0 : Shared) (X : Array Value) (s : Shared) : Prop := ∃ h n, s = { s0 with heap := h } ∧ h.get? a = some (lob X n) ∧ ∀ b u, b ≠ a → s0.heap.get? b = some u → h.get? b = some u
def KeyH (a : Addr) (s0 : Shared) (wd : Value → Str) (v : Value) : Prop := RkAt s0.heap v (wd v) ∧ v ≠ .ref a
theorem KeyH.now {a : Addr} {s0 s : Shared} {X : Array Value} {wd : Value → Str} {v : Value} (k : KeyH a s0 wd v) (z : StH a s0 X s) : RkAt s.heap v (wd v) := by
  obtain ⟨⟨p, o, t1, t2, n, rfl, h1, h2, h3⟩, hne⟩ := k
  obtain ⟨h, n', rfl, _, hk⟩ := z
  exact ⟨p, o, t1, t2, n, rfl, hk p o (fun e => hne (by rw [e])) h1, h2, h3⟩
def leV (wd : Value → Str) (v v' : Value) : Prop := leR (wd v) (wd v') = true
theorem at_get {M : Model} {A : Around} {E : Value → Shared → Prop} {s : Shared} {X : Array Value} {i : Nat} {v : Value} {Q : Value → Shared → Prop} (h : X[i]? = some v) (q : Q v s) :
    wpAny M A (match X[i]? with | some v => pure v | none => unsupported "internal:_heapq.index" : Sem Value) Q E s := by
  rw [h]
  exact wpAny_pure q
theorem StH.swap {a : Addr} {s0 s : Shared} {X : Array Value} (z : StH a s0 X s) (f : Array Value → Array Value) : StH a s0 (f X) { s with heap := s.heap.update a (Obj.mapSeq f) } := by
  obtain ⟨h, n, rfl, h1, h2⟩ := z
  have q := PySem.IsL.update h1 f
  exact ⟨_, _, rfl, q, fun b u hb hu => (Heap.get?_update_other h (Obj.mapSeq f) (Ne.symm hb)).trans (h2 b u hb hu)⟩
theorem leR_tl : PySem.W.TotalLe leR := PySem.W.sortLe_total (listOrd itemOrd) false fun b => PySem.W.keyToks (rk b)
theorem leV_tot {wd : Value → Str} (a b : Value) : leV wd a b ∨ leV wd b a := leR_tl.total _ _
theorem leV_tr {wd : Value → Str} (a b c : Value) (h1 : leV wd a b) (h2 : leV wd b c) : leV wd a c := leR_tl.trans _ _ _ h1 h2
section
variable {prog : Program} {w : World} {A : Around} {R : Result → Shared → Prop} {a : Addr} {s0 : Shared} {wd : Value → Str} {res : Value}
abbrev sft (a : Addr) (down : Bool) (pos top : Nat) (res : Value) (after : Int) : Args := ⟨[.ref a, .bool false, .bool down, rawInt pos, rawInt top, res, rawInt after], []⟩
abbrev FPo (prog : Program) (w : World) (A : Around) (R : Result → Shared → Prop) : PySem.Fin → Shared → Prop := fun fin s' => match fin with | .done f => R (.ok f) s' | .again c' => c'.quiet = true ∧ codeAny (model prog w) A c' R s'
abbrev runs (prog : Program) (w : World) (A : Around) (R : Result → Shared → Prop) (a : Addr) (down : Bool) (pos top : Nat) (res : Value) (after : Int) (s : Shared) : Prop :=
  wpAny (model prog w) A.in1 (Builtin.«_heapq.heapify.sift» (sft a down pos top res after)) (FPo prog w A R) (fun e s' => R (.error e) s') s
theorem go_on {down : Bool} {pos top : Nat} {after : Int} {s : Shared} (h : runs prog w A R a down pos top res after s) :
    wpAny (model prog w) A.in1 (pure (.again (.builtin "_heapq.heapify.sift" (sft a down pos top res after))) : Sem PySem.Fin) (FPo prog w A R) (fun e s' => R (.error e) s') s :=
  wpAny_pure ⟨plainId_quiet plain_sift _, codeAny_builtin entry_sift (by
    rw [Around.under_plainId plain_sift _]
    exact h)⟩
/-- upward -/
theorem run_up {top : Nat} (hu : A.in1.units + 2 < cLine) (X0 : Array Value) (hk : ∀ v ∈ X0, KeyH a s0 wd v) (hz : X0.size ≤ sizeLine)
    (hd : ∀ X s, StH a s0 X s → X.toList.Perm X0.toList → Hpd (leV wd) X top → (top = 0 → R (.ok (.ret res)) s) ∧ ∀ t, top = t + 1 → runs prog w A R a true t t res ((t : Int) - 1) s) :
    ∀ (pos : Nat) (X : Array Value) (s : Shared), StH a s0 X s → X.toList.Perm X0.toList → Up (leV wd) X top pos → pos < X.size → runs prog w A R a false pos top res ((top : Int) - 1) s := by
  intro pos
  induction pos using Nat.strongRecOn with
  | _ pos ih =>
    intro X s z hp hup hlt
    obtain ⟨h, n, es, hl, hkp⟩ := id z
    have hl' : s.heap.get? a = some (lob X n) := by rw [es]; exact hl
    unfold runs Builtin.«_heapq.heapify.sift»
    dsimp only [sft, rawInt]
    refine wpAny_bind (wpAny_bind (wpAny_seqItems hl' rfl ?_))
    dsimp only
    refine wpAny_pure ?_
    rw [if_neg Bool.false_ne_true, Int.toNat_natCast, Int.toNat_natCast]
    have fin : ∀ (hH : Hpd (leV wd) X top), wpAny (model prog w) A.in1 (if ((top : Int) - 1) < 0 then ret res else (pure (.again (.builtin "_heapq.heapify.sift" (sft a true ((top : Int) - 1).toNat ((top : Int) - 1).toNat res (((top : Int) - 1) - 1))))) : Sem PySem.Fin) (FPo prog w A R) (fun e s' => R (.error e) s') s := fun hH => by
      obtain ⟨d1, d2⟩ := hd X s z hp hH
      cases top with
      | zero =>
        rw [if_pos (by decide)]
        exact wpAny_pure (d1 rfl)
      | succ t =>
        rw [if_neg (by omega)]
        have e : (((t + 1 : Nat) : Int) - 1).toNat = t := by omega
        have e2 : (((t + 1 : Nat) : Int) - 1) = (t : Int) := by omega
        rw [e2, Int.toNat_natCast]
        exact go_on (d2 t rfl)
    by_cases ht : top < pos
    · rw [if_pos ht]
      have ev : X[pos]? = some X[pos] := Array.getElem?_eq_getElem hlt
      have hpar : (pos - 1) / 2 < X.size := by omega
      have ex : X[(pos - 1) / 2]? = some X[(pos - 1) / 2] := Array.getElem?_eq_getElem hpar
      have kv : KeyH a s0 wd X[pos] := hk _ (Array.mem_toList_iff.mp (hp.mem_iff.mp (Array.mem_toList_iff.mpr (Array.getElem_mem hlt))))
      have kx : KeyH a s0 wd X[(pos - 1) / 2] := hk _ (Array.mem_toList_iff.mp (hp.mem_iff.mp (Array.mem_toList_iff.mpr (Array.getElem_mem hpar))))
      generalize X[pos] = v at ev kv
      generalize X[(pos - 1) / 2] = x at ex kx
      refine wpAny_bind (at_get ev (wpAny_bind (at_get ex ?_)))
      rw [if_neg Bool.false_ne_true]
      refine wpAny_bind (wpAny_bind (wpAny_holding (wpAny_bind (PySem.W.lt_data (kv.now z).reads (kx.now z).reads (alike_rk _ _) (by intro e; cases e) ?_ ?_))))
      · have h1 := rk_depth (wd v)
        have h2 := rk_depth (wd x)
        omega
      refine wpAny_truthy_bool ?_
      refine wpAny_bind (wpAny_bind (wpAny_seqItems hl' rfl ?_))
      dsimp only
      refine wpAny_pure ?_
      rw [if_neg (by simp)]
      refine wpAny_pure ?_
      by_cases hq : PySem.W.dataLt (rk (wd v)) (rk (wd x)) = true
      · rw [if_pos hq]
        have hnle : ¬ leV wd x v := fun e => by
          have : (!PySem.W.dataLt (rk (wd v)) (rk (wd x))) = true := e
          rw [hq] at this
          cases this
        refine wpAny_bind (wpAny_bind (wpAny_bind (wpAny_seqItems hl' rfl ?_)))
        dsimp only
        refine wpAny_pure ?_
        refine wpAny_bind (at_get ex (wpAny_bind (at_get ev ?_)))
        have hXs : X.size = X0.size := by
          have := hp.length_eq
          rw [Array.length_toList, Array.length_toList] at this
          exact this
        refine wpAny_updateSeq hl' rfl ?_ (by omega) (by show (swapA X ((pos - 1) / 2) pos x v).size ≤ sizeLine + 1; rw [swapA_size]; omega)
        refine go_on (ih _ (by omega) (swapA X ((pos - 1) / 2) pos x v) _ (z.swap fun xs => swapA xs ((pos - 1) / 2) pos x v) ((swapA_perm ex ev).trans hp) (hup.step leV_tot leV_tr ht ev ex hnle) (by rw [swapA_size]; exact hpar))
      · rw [if_neg hq]
        refine fin (hup.stop (.inr fun v' p' e1 e2 => ?_))
        rw [ev] at e1
        rw [ex] at e2
        cases e1
        cases e2
        show (!PySem.W.dataLt (rk (wd v)) (rk (wd x))) = true
        rw [Bool.eq_false_iff.mpr hq]
        rfl
    · rw [if_neg ht]
      exact fin (hup.stop (.inl (by omega)))
/-- downward -/
theorem run_down {top : Nat} (hu : A.in1.units + 2 < cLine) (X0 : Array Value) (hk : ∀ v ∈ X0, KeyH a s0 wd v) (hz : X0.size ≤ sizeLine)
    (hd : ∀ X s, StH a s0 X s → X.toList.Perm X0.toList → Hpd (leV wd) X top → (top = 0 → R (.ok (.ret res)) s) ∧ ∀ t, top = t + 1 → runs prog w A R a true t t res ((t : Int) - 1) s) :
    ∀ (k pos : Nat) (X : Array Value) (s : Shared), X.size - pos = k → StH a s0 X s → X.toList.Perm X0.toList → Dn (leV wd) X top pos → pos < X.size → runs prog w A R a true pos top res ((top : Int) - 1) s := by
  intro k
  induction k using Nat.strongRecOn with
  | _ k ih =>
    intro pos X s hkp z hp hdn hlt
    obtain ⟨h, n, es, hl, _⟩ := id z
    have hl' : s.heap.get? a = some (lob X n) := by rw [es]; exact hl
    have hXs : X.size = X0.size := by
      have := hp.length_eq
      rw [Array.length_toList, Array.length_toList] at this
      exact this
    have hkx : ∀ (i : Nat) (hi : i < X.size), KeyH a s0 wd X[i] := fun i hi => hk _ (Array.mem_toList_iff.mp (hp.mem_iff.mp (Array.mem_toList_iff.mpr (Array.getElem_mem hi))))
    have ev : X[pos]? = some X[pos] := Array.getElem?_eq_getElem hlt
    unfold runs Builtin.«_heapq.heapify.sift»
    dsimp only [sft, rawInt]
    refine wpAny_bind (wpAny_bind (wpAny_seqItems hl' rfl ?_))
    dsimp only
    refine wpAny_pure ?_
    rw [if_pos rfl, Int.toNat_natCast, Int.toNat_natCast]
    by_cases hh : pos < X.size / 2
    · rw [if_pos hh]
      have hL : 2 * pos + 1 < X.size := by omega
      have eL : X[2 * pos + 1]? = some X[2 * pos + 1] := Array.getElem?_eq_getElem hL
      have kL := hkx _ hL
      generalize X[pos] = v at ev
      generalize X[2 * pos + 1] = l at eL kL
      by_cases hR : 2 * pos + 1 + 1 < X.size
      · rw [if_pos hR]
        have eR : X[2 * pos + 1 + 1]? = some X[2 * pos + 1 + 1] := Array.getElem?_eq_getElem hR
        have kR := hkx _ hR
        generalize X[2 * pos + 1 + 1] = r at eR kR
        refine wpAny_bind (at_get eL (wpAny_bind (at_get eR ?_)))
        rw [if_neg Bool.false_ne_true]
        refine wpAny_bind (wpAny_bind (wpAny_holding (wpAny_bind (PySem.W.lt_data (kL.now z).reads (kR.now z).reads (alike_rk _ _) (by intro e; cases e) ?_ ?_))))
        · have h1 := rk_depth (wd l)
          have h2 := rk_depth (wd r)
          omega
        refine wpAny_truthy_bool ?_
        refine wpAny_bind (wpAny_bind (wpAny_seqItems hl' rfl ?_))
        dsimp only
        refine wpAny_pure ?_
        rw [if_neg (by simp)]
        refine wpAny_pure ?_
        by_cases hq : PySem.W.dataLt (rk (wd l)) (rk (wd r)) = true
        · rw [hq, if_neg (by simp)]
          have hm : ∀ d y, 1 ≤ d → (d - 1) / 2 = pos → d ≠ 2 * pos + 1 → X[d]? = some y → leV wd l y := fun d y d1 d2 d3 e => by
            have : d = 2 * pos + 1 + 1 := by omega
            subst this
            rw [eR] at e
            cases e
            refine (leV_tot l r).resolve_right fun e => ?_
            have : (!PySem.W.dataLt (rk (wd l)) (rk (wd r))) = true := e
            rw [hq] at this
            cases this
          refine wpAny_bind (wpAny_bind (wpAny_bind (wpAny_seqItems hl' rfl ?_)))
          dsimp only
          refine wpAny_pure ?_
          refine wpAny_bind (at_get eL (wpAny_bind (at_get ev ?_)))
          refine wpAny_updateSeq hl' rfl ?_ (by omega) (by show (swapA X (2 * pos + 1) pos l v).size ≤ sizeLine + 1; rw [swapA_size]; omega)
          exact go_on (ih (X.size - (2 * pos + 1)) (by omega) _ (swapA X (2 * pos + 1) pos l v) _ (by rw [swapA_size]) (z.swap fun xs => swapA xs (2 * pos + 1) pos l v) ((swapA_perm eL ev).trans hp) (hdn.step (by omega) (by omega) ev eL hm) (by rw [swapA_size]; omega))
        · rw [Bool.eq_false_iff.mpr hq, if_pos (by simp)]
          have hm : ∀ d y, 1 ≤ d → (d - 1) / 2 = pos → d ≠ 2 * pos + 1 + 1 → X[d]? = some y → leV wd r y := fun d y d1 d2 d3 e => by
            have : d = 2 * pos + 1 := by omega
            subst this
            rw [eL] at e
            cases e
            show (!PySem.W.dataLt (rk (wd l)) (rk (wd r))) = true
            rw [Bool.eq_false_iff.mpr hq]
            rfl
          refine wpAny_bind (wpAny_bind (wpAny_bind (wpAny_seqItems hl' rfl ?_)))
          dsimp only
          refine wpAny_pure ?_
          refine wpAny_bind (at_get eR (wpAny_bind (at_get ev ?_)))
          refine wpAny_updateSeq hl' rfl ?_ (by omega) (by show (swapA X (2 * pos + 1 + 1) pos r v).size ≤ sizeLine + 1; rw [swapA_size]; omega)
          exact go_on (ih (X.size - (2 * pos + 1 + 1)) (by omega) _ (swapA X (2 * pos + 1 + 1) pos r v) _ (by rw [swapA_size]) (z.swap fun xs => swapA xs (2 * pos + 1 + 1) pos r v) ((swapA_perm eR ev).trans hp) (hdn.step (by omega) (by omega) ev eR hm) (by rw [swapA_size]; omega))
      · rw [if_neg hR]
        have hm : ∀ d y, 1 ≤ d → (d - 1) / 2 = pos → d ≠ 2 * pos + 1 → X[d]? = some y → leV wd l y := fun d y d1 d2 d3 e => by
          have := (Array.getElem?_eq_some_iff.mp e).1
          omega
        refine wpAny_bind (wpAny_bind (wpAny_bind (wpAny_seqItems hl' rfl ?_)))
        dsimp only
        refine wpAny_pure ?_
        refine wpAny_bind (at_get eL (wpAny_bind (at_get ev ?_)))
        refine wpAny_updateSeq hl' rfl ?_ (by omega) (by show (swapA X (2 * pos + 1) pos l v).size ≤ sizeLine + 1; rw [swapA_size]; omega)
        exact go_on (ih (X.size - (2 * pos + 1)) (by omega) _ (swapA X (2 * pos + 1) pos l v) _ (by rw [swapA_size]) (z.swap fun xs => swapA xs (2 * pos + 1) pos l v) ((swapA_perm eL ev).trans hp) (hdn.step (by omega) (by omega) ev eL hm) (by rw [swapA_size]; omega))
    · rw [if_neg hh]
      exact go_on (run_up hu X0 hk hz hd pos X s z hp (hdn.leaf (by omega)) hlt)
/-- from a top down to the first -/
theorem run_all (hu : A.in1.units + 2 < cLine) (X0 : Array Value) (hk : ∀ v ∈ X0, KeyH a s0 wd v) (hz : X0.size ≤ sizeLine) (hfin : ∀ X s, StH a s0 X s → X.toList.Perm X0.toList → Hpd (leV wd) X 0 → R (.ok (.ret res)) s) :
    ∀ top : Nat, top ≤ X0.size → ∀ X s, StH a s0 X s → X.toList.Perm X0.toList → Hpd (leV wd) X top → (top = 0 → R (.ok (.ret res)) s) ∧ ∀ t, top = t + 1 → runs prog w A R a true t t res ((t : Int) - 1) s := by
  intro top
  induction top using Nat.strongRecOn with
  | _ top ih =>
    intro htz X s z hp hH
    refine ⟨fun e => hfin X s z hp (e ▸ hH), fun t e => ?_⟩
    subst e
    have hXs : X.size = X0.size := by
      have := hp.length_eq
      rw [Array.length_toList, Array.length_toList] at this
      exact this
    exact run_down hu X0 hk hz (ih t (by omega) (by omega)) _ t X s rfl z hp ⟨fun i h1 h2 h3 h4 => hH i h1 (by omega), fun c h1 h2 h3 => absurd h3 (Nat.lt_irrefl _), .top⟩ (by omega)
end
end Fp

set_option Elab.async false
set_option linter.all false
set_option maxRecDepth 100000
set_option maxHeartbeats 2000000
/-! min(d, key=rank_of) of a dict of texts -/
namespace Fp
open PySem PySem.W PySem.Spec PyProof.Rows
section
variable {prog : Program} {w : World} {A : Around} {E : Value → Shared → Prop} {s : Shared} {K : Frag} {mg : Str → Option Value} {base : Heap} {fR : Addr} {fd : FuncData} {p0 p1 p2 p3 p4 p5 p6 p7 : Pos}
theorem rank_call2 (F : L2.FunD K "rank_of" "rank_of" (rkA p0) (rkB p1 p2 p3 p4 p5 p6 p7) rkS [] [] fR fd) (Mo : L2.Mod K mg base) (kb : ∀ b o, base.get? b = some o → s.heap.get? b = some o) (hlen : mg "len" = none) (hroom : A.depth + 1 < recursionLimit)
    {w0 : Str} {t : Tok} (hw : w0.length ≤ sizeLine) : wpAny (model prog w) A (call (.ref fR) [.str w0 t]) (fun v s' => ∃ h' tk p, v = .ref p ∧ s' = { s with heap := h', toks := tk } ∧ (∀ b o, s.heap.get? b = some o → h'.get? b = some o) ∧ s.heap.get? p = none ∧ RkAt h' v w0) E s := by
  obtain ⟨oc, od, dV, kV, doc, pm, an, cdv, ct, osl, rfl, lk, hcd, hD, _⟩ := F.ex
  obtain rfl : dV = .none := by
    rcases hD with ⟨_, e⟩ | ⟨e, _⟩
    · exact e
    · exact absurd rfl e
  have X : K.In s.heap := Mo.kin.keeps kb
  refine wpAny_call (Att.call_fn (binds := [("word", .str w0 t)]) X (Mo.nolimit.keeps kb) lk hcd (Nat.lt_of_succ_lt hroom) (BindsTo.of_eq (by first | rfl | with_unfolding_all rfl)) (by first | rfl | decide | with_unfolding_all rfl) (fun s₁ IC => ?_) rfl rfl rfl)
  obtain ⟨h₁, tk₁, rfl⟩ := IC.toInCall.same
  have k : ∀ b o, s.heap.get? b = some o → h₁.get? b = some o := IC.toInCall.keep
  have hn := IC.toInCall.ns
  obtain ⟨mb, b1, b2⟩ := Mo.blt
  show wpAny _ _ (execs _ _) _ _ _
  refine wpAny_execs_cons (wpAny_Return_some (wpAny_Tuple_spliced ?_))
  show wpAny _ _ (spliced ((false, eval _ _) :: backTo p6 (starEach [_] _))) _ _ _
  refine Calls.spliced_cons (wpAny_UnaryOp ?_)
  refine wpAny_Call_Name_kw (Calls.Name_function_global rfl rfl (Calls.loadGlobal_builtin (Mo.glob.keeps fun b o e => k b o (kb b o e)) hlen (b1.keeps fun b o e => k b o (kb b o e)) ((b2 "len" (by decide)).trans boot_len) ?_) (by decide))
  refine callWith_builtin1 (spliced_more (ldC (v := .str w0 t) hn (by first | rfl | with_unfolding_all rfl | kernel_rfl) (spliced_none ?_))) rfl rfl
  have hs : sizeLine = 16777216 := sizeLine_eq
  have hl63 := L2.line63
  refine len_str (by omega) (neg_int ?_)
  show wpAny _ _ (spliced ((false, eval _ _) :: backTo p6 (starEach [] _))) _ _ _
  refine Calls.spliced_cons (ldC (v := .str w0 t) hn (by first | rfl | with_unfolding_all rfl | kernel_rfl) (Calls.spliced_nil ?_))
  refine ⟨by show 2 ≤ sizeLine; rw [sizeLine_eq]; decide, ?_⟩
  refine ⟨_, _, _, rfl, rfl, fun b o e => Heap.get?_push_of_some _ (k b o e), ?_, ?_⟩
  · cases q : s.heap.get? h₁.objs.size with
    | none => rfl
    | some u =>
      have := Heap.lt_size (k _ _ q)
      exact absurd this (Nat.lt_irrefl _)
  · exact ⟨_, _, _, _, _, rfl, Heap.get?_push_size _ rfl, rfl, rfl⟩
end
theorem best_le {bt : Nat → Nat → Bool} {le : Nat → Nat → Prop} (rf : ∀ i, le i i) (tr : ∀ i j k, le i j → le j k → le i k) (h1 : ∀ i j, bt i j = true → le i j) (h2 : ∀ i j, bt i j = false → le j i) : ∀ k, argBest bt k ≤ k ∧ ∀ j, j ≤ k → le (argBest bt k) j
  | 0 => ⟨Nat.le_refl _, fun j hj => by
    have : j = 0 := by omega
    subst this
    exact rf 0⟩
  | k + 1 => by
    obtain ⟨a1, a2⟩ := best_le rf tr h1 h2 k
    simp only [argBest]
    cases hb : bt (k + 1) (argBest bt k) with
    | true =>
      rw [if_pos rfl]
      refine ⟨Nat.le_refl _, fun j hj => ?_⟩
      by_cases e : j = k + 1
      · rw [e]
        exact rf _
      · exact tr _ _ _ (h1 _ _ hb) (a2 j (by omega))
    | false =>
      rw [if_neg Bool.false_ne_true]
      refine ⟨by omega, fun j hj => ?_⟩
      by_cases e : j = k + 1
      · rw [e]
        exact h2 _ _ hb
      · exact a2 j (by omega)
end Fp
namespace L2
open PySem PySem.Spec PyProof.Rows
def rMinRk (fR : Addr) : List V → List V → Hp → VK → Prop := fun vs zs H Q => ∃ (a : Addr) (kvs : List (Key × V)) (ws : List Str), vs = [.ref a] ∧ zs = [.ref fR] ∧ H a = some (.dK kvs) ∧ kvs.map (·.1) = ws.map Sum.inr ∧ ws ≠ [] ∧ (∀ w ∈ ws, w.length ≤ sizeLine) ∧
  ∀ m ∈ ws, (∀ y ∈ ws, Fp.leR m y = true) → Q (.str m) H
section
variable {X : Cx} {fR : Addr} {fd : FuncData} {p0 p1 p2 p3 p4 p5 p6 p7 : Pos}
theorem cr_minRk (hcalm : X.calm = true) (F : FunD X.K "rank_of" "rank_of" (Fp.rkA p0) (Fp.rkB p1 p2 p3 p4 p5 p6 p7) Fp.rkS [] [] fR fd) (hlen : X.mg "len" = none) (hr : Room 3 X.A) : CallRK X (.builtin "min") [Str.ofString "key"] (rMinRk fR) := by
  intro pins s σ H vs zs us ws Q I r rz h
  obtain ⟨a, kvs, ks, rfl, rfl, ha, hks, hne, hwl, q⟩ := h
  obtain rfl := Vals.ref1 r
  obtain ⟨w1, rfl, e1⟩ := vals1 rz
  obtain rfl : w1 = Value.ref fR := e1
  obtain ⟨_, hsys, vs, rel, dof⟩ := dk_of I.hok ha
  obtain ⟨ep, dat⟩ := dof.dictAt
  obtain ⟨ob, es, ho, hex, hdat, hko, hpr, hnd⟩ := id dat
  have hlt : a < s.heap.objs.size := Heap.lt_size ho
  have hkeys : vs.map (·.1) = ks.map Sum.inr := (KV.keys rel).symm.trans hks
  have hlv : vs.length = ks.length := by
    have e1 := congrArg List.length hkeys
    rw [List.length_map, List.length_map] at e1
    exact e1
  have hpos : 0 < ks.length := List.length_pos_iff.mpr hne
  have hval : ∀ (i : Nat) (v : Value), (∃ k x, vs[i]? = some (k, x) ∧ (mixKind X.prog X.w).is k v = true) → ∃ x t, ks[i]? = some x ∧ v = Value.str x t := fun i v ⟨k, x, hk, hkey⟩ => by
    have e1 : (vs.map (·.1))[i]? = some k := by rw [List.getElem?_map, hk] <;> rfl
    rw [hkeys, List.getElem?_map] at e1
    obtain ⟨j, hj, e2⟩ := Option.map_eq_some_iff.mp e1
    subst e2
    obtain ⟨t, e3⟩ := Value.isStrOf_shape (x := j) (v := v) hkey
    exact ⟨j, t, hj, e3⟩
  refine call_min_walkK (wpAny_pyIter_dict (knd := mixKind X.prog X.w) hsys dat ?_)
  refine ⟨_, _, _, _, _, _, _, (fun s' => ∃ h' tk, s' = { s with heap := h', toks := tk } ∧ ∀ b o, s.heap.get? b = some o → h'.get? b = some o),
    (fun i v s' => ∃ x, ks[i]? = some x ∧ Fp.RkAt s'.heap v x ∧ v ≠ .ref s.heap.objs.size ∧ v ≠ .ref (s.heap.objs.size + 1)), (fun i j => PySem.W.dataLt (Fp.rk (ks.getD i "")) (Fp.rk (ks.getD j ""))), rfl,
    (Walks.dictKeys (knd := mixKind X.prog X.w) (A := X.A.in1) (I.ok.hd hcalm) s.heap.objs.size a (Nat.ne_of_lt hlt) vs ep).toS,
    ⟨⟨_, Heap.get?_push_size _ rfl, rfl, rfl⟩, dat.keep fun b u e => Heap.get?_push_of_some _ e⟩, fun b hb => ?_, by rw [hlv]; exact hpos, ?_, ⟨_, s.toks, rfl, fun b o e => Heap.get?_push_of_some _ e⟩, fun v s' hP hJ => ?_⟩
  · show b < (s.heap.push _).objs.size
    rw [Heap.size_push]
    rcases List.mem_cons.mp hb with e | hb
    · rw [e]
      exact Nat.lt_succ_self _
    · rw [List.mem_singleton.mp hb]
      exact Nat.lt_succ_of_lt hlt
  · have hS : (s.heap.push { cls := .type "dict_keyiterator", data := .fields #[.ref a, .int 0 0, .int vs.length 0, .int ep 0] }).objs.size = s.heap.objs.size + 1 := Heap.size_push _ _
    have old : ∀ {b : Addr} {o : Obj}, s.heap.get? b = some o → b ∉ (s.heap.push { cls := .type "dict_keyiterator", data := .fields #[.ref a, .int 0 0, .int vs.length 0, .int ep 0] }).objs.size :: [s.heap.objs.size] := fun e hm => by
      have hb := Heap.lt_size e
      rw [hS] at hm
      rcases List.mem_cons.mp hm with h1 | h1
      · rw [h1] at hb
        exact absurd hb (Nat.not_lt.mpr (Nat.le_succ _))
      · rw [List.mem_singleton.mp h1] at hb
        exact Nat.lt_irrefl _ hb
    have rkk : ∀ {h1 h2 : Heap} {v : Value} {x : Str}, Fp.RkAt h1 v x → (∀ p o, v = .ref p → h1.get? p = some o → h2.get? p = some o) → Fp.RkAt h2 v x := fun ⟨p, o, t1, t2, n, e0, e1, e2, e3⟩ hk => ⟨p, o, t1, t2, n, e0, hk p o e0 e1, e2, e3⟩
    have gd : ∀ {i : Nat} {x : Str}, ks[i]? = some x → ks.getD i "" = x := fun e => by
      rw [List.getD_eq_getElem?_getD, e]
      rfl
    refine ⟨fun s1 s2 hJ hm => ?_, fun i k s1 s2 hV hm => ?_, fun i v s1 o Q' E' hi hP hJ hst hSo hq => ?_, fun i j ki kj s1 Q' E' hJ hVi hVj hq => ?_⟩
    · obtain ⟨h1, tk, rfl, hk⟩ := hJ
      obtain ⟨m1, m2, m3, m4, m5⟩ := hm
      obtain ⟨hp2, g2, d2, t2, o2⟩ := s2
      have m2 : g2 = s.gens := m2
      have m3 : d2 = s.drawn := m3
      have m4 : o2 = s.os := m4
      subst m2
      subst m3
      subst m4
      exact ⟨hp2, t2, rfl, fun b o e => m1 b o (old e) (hk b o e)⟩
    · obtain ⟨x, hx, hr', n1, n2⟩ := hV
      refine ⟨x, hx, rkk hr' fun p o e0 e1 => hm.heap p o (fun hmem => ?_) e1, n1, n2⟩
      rw [hS] at hmem
      rcases List.mem_cons.mp hmem with h1 | h1
      · exact n2 (by rw [e0, h1])
      · exact n1 (by rw [e0, List.mem_singleton.mp h1])
    · obtain ⟨x, t, hx, rfl⟩ := hval i v hP
      obtain ⟨h1, tk, rfl, hk⟩ := hJ
      have hdp := hr.dp
      refine wpAny_mono (Fp.rank_call2 (s := { s with heap := h1, toks := tk }) F I.ok.mod (fun b o e => hk b o (I.bk b o e)) hlen (by show X.A.depth + 1 < _; omega) (hwl x (List.mem_of_getElem? hx))) (fun k s' hk' => ?_) fun _ _ e => e
      obtain ⟨h2, tk2, p, rfl, rfl, kp, np, hr'⟩ := hk'
      have hI := hst.1
      refine hq _ _ ⟨h2, tk2, rfl, fun b o e => kp b o (hk b o e)⟩ ((Walks.dictKeys (prog := X.prog) (w := X.w) (knd := mixKind X.prog X.w) (A := X.A.in1) (I.ok.hd hcalm) s.heap.objs.size a (Nat.ne_of_lt hlt) vs ep).frame _ _ _ hst fun b _ o e => kp b o e) (kp _ _ hSo) ⟨x, hx, hr', fun e => ?_, fun e => ?_⟩ fun j k' hV => ?_
      · obtain ⟨oi, hoi, _⟩ := hI
        injection e with e
        rw [e] at np
        rw [np] at hoi
        cases hoi
      · injection e with e
        rw [hS] at hSo
        rw [e] at np
        rw [np] at hSo
        cases hSo
      · obtain ⟨y, hy, hr2, n1, n2⟩ := hV
        exact ⟨y, hy, rkk hr2 fun p o _ e1 => kp p o e1, n1, n2⟩
    · obtain ⟨x, hx, r1, _⟩ := hVi
      obtain ⟨y, hy, r2, _⟩ := hVj
      have hu := hr.in1.in1.in1.units0
      refine PySem.W.lt_data r1.reads r2.reads (Fp.alike_rk _ _) (by intro e; cases e) ?_ ?_
      · have a1 := Fp.rk_depth x
        have a2 := Fp.rk_depth y
        show X.A.in1.units + min (Fp.rk x).depth (Fp.rk y).depth < cLine
        have hu : X.A.in1.units + 2 < cLine := hu
        omega
      · rw [gd hx, gd hy] at hq
        exact hq
  · obtain ⟨h', tk, rfl, hk⟩ := hJ
    obtain ⟨x, t, hx, rfl⟩ := hval _ v hP
    refine ⟨.str x, H, I.kept (t' := tk) hk, ⟨t, rfl⟩, q x (List.mem_of_getElem? hx) fun y hy => ?_⟩
    obtain ⟨b1, b2⟩ := Fp.best_le (bt := fun i j => PySem.W.dataLt (Fp.rk (ks.getD i "")) (Fp.rk (ks.getD j ""))) (le := fun i j => Fp.leR (ks.getD i "") (ks.getD j "") = true) (fun i => (Fp.leR_tl.total _ _).elim id id) (fun i j k => Fp.leR_tl.trans _ _ _)
      (fun i j e => (Fp.leR_tl.total _ _).resolve_right fun e2 => by
        have : (!PySem.W.dataLt (Fp.rk (ks.getD i "")) (Fp.rk (ks.getD j ""))) = true := e2
        rw [e] at this
        cases this) (fun i j e => by
        show (!PySem.W.dataLt (Fp.rk (ks.getD i "")) (Fp.rk (ks.getD j ""))) = true
        rw [e]
        rfl) (vs.length - 1)
    obtain ⟨j, hj, ej⟩ := List.mem_iff_getElem.mp hy
    have := b2 j (by omega)
    rw [List.getD_eq_getElem?_getD, hx, List.getD_eq_getElem?_getD, List.getElem?_eq_getElem hj, ej] at this
    exact this
end
end L2

set_option Elab.async false
set_option linter.all false
set_option maxRecDepth 100000
set_option maxHeartbeats 2000000
/-! heapify, heappush, heappop, run -/
namespace Fp
open PySem PySem.Spec PyProof.Rows
theorem Hpd.sub {α : Type} {le : α → α → Prop} {X Y : Array α} {top : Nat} (h : Hpd le X top) (e : ∀ i, 1 ≤ i → ∀ v, Y[i]? = some v → X[i]? = some v) (e0 : ∀ i p, top ≤ i → Y[i]? = some p → X[i]? = some p) : Hpd le Y top := fun i h1 h2 v p a b =>
  h i h1 h2 v p (e i h1 v a) (e0 _ p h2 b)
section
variable {prog : Program} {w : World} {A : Around} {R : Result → Shared → Prop} {a : Addr} {s : Shared} {wd : Value → Str}
theorem StH.refl {X : Array Value} {n : Nat} (h : s.heap.get? a = some (lob X n)) : StH a s X s := ⟨s.heap, n, rfl, h, fun _ _ _ e => e⟩
theorem StH.get {s0 : Shared} {X : Array Value} (z : StH a s0 X s) : ∃ n, s.heap.get? a = some (lob X n) := by
  obtain ⟨h, n, rfl, e, _⟩ := z
  exact ⟨n, e⟩
theorem isl {X : Array Value} {n : Nat} (h : s.heap.get? a = some (lob X n)) : s.TypeIs (.ref a) "list" := ⟨_, h, rfl⟩
theorem sub_list : isSubtype (.type "list") (.type "list") = pure true := by with_unfolding_all rfl
theorem pop_run (hu : A.in1.units + 2 < cLine) {n : Nat} {f lst : Value} {mid : List Value} (h : s.heap.get? a = some (lob (f :: (mid ++ [lst])).toArray n)) (hz : mid.length + 2 ≤ sizeLine)
    (hk : ∀ v ∈ f :: (mid ++ [lst]), KeyH a s wd v) (hh : Hpd (leV wd) (f :: (mid ++ [lst])).toArray 0)
    (q : ∀ X' s', StH a s X' s' → X'.toList.Perm (lst :: mid) → Hpd (leV wd) X' 0 → R (.ok (.ret f)) s') :
    wpAny (model prog w) A.in1 (Builtin.«_heapq.heappop» ⟨[.ref a], []⟩) (FPo prog w A R) (fun e s' => R (.error e) s') s := by
  unfold Builtin.«_heapq.heappop»
  refine wpAny_bind (wpAny_bind (wpAny_bind (wpAny_pure (wpAny_pure ?_))))
  dsimp only
  refine wpAny_bind (wpAny_bind (wpAny_isInstance (isl h) sub_list ?_))
  rw [if_pos rfl]
  refine wpAny_pure (wpAny_pure ?_)
  dsimp only
  refine wpAny_bind (wpAny_bind (wpAny_seqItems h rfl (wpAny_pure ?_)))
  have hb : ((f :: (mid ++ [lst])).toArray).back? = some lst := by
    rw [List.back?_toArray]
    exact List.getLast?_concat (l := f :: mid)
  have hs : ((f :: (mid ++ [lst])).toArray).size = mid.length + 2 := by simp
  rw [hb]
  dsimp only
  have z0 := (StH.refl h).swap fun x => x.pop
  refine wpAny_bind (wpAny_updateSeq h rfl ?_ (by omega) (by rw [Array.size_pop]; omega))
  rw [if_neg (show ¬ ((((f :: (mid ++ [lst])).toArray).size == 1) = true) from by rw [hs]; simp)]
  refine wpAny_bind (at_get (X := (f :: (mid ++ [lst])).toArray) (i := 0) (v := f) (by rfl) ?_)
  obtain ⟨n1, h1⟩ := z0.get
  have z1 := z0.swap fun x => x.setIfInBounds 0 lst
  refine wpAny_bind (wpAny_updateSeq h1 rfl ?_ (by rw [Array.size_pop]; omega) (by rw [Array.size_setIfInBounds, Array.size_pop]; omega))
  have eY : (((f :: (mid ++ [lst])).toArray).pop).setIfInBounds 0 lst = (lst :: mid).toArray := by
    apply Array.ext'
    simp [List.dropLast_cons_of_ne_nil]
  rw [eY] at z1
  have hY : ∀ i, 1 ≤ i → ∀ v, ((lst :: mid).toArray)[i]? = some v → ((f :: (mid ++ [lst])).toArray)[i]? = some v := fun i hi v e => by
    obtain ⟨j, rfl⟩ : ∃ j, i = j + 1 := ⟨i - 1, by omega⟩
    simp at e ⊢
    rw [List.getElem?_append_left ((List.getElem?_eq_some_iff.mp e).1)]
    exact e
  have hsY : ((lst :: mid).toArray).size = mid.length + 1 := by simp
  refine go_on (top := 0) (after := -1) (run_down (s0 := s) (wd := wd) (top := 0) hu ((lst :: mid).toArray) (fun v hv => hk v ?_) (by omega) (fun X s' z hp hH => ⟨fun _ => q X s' z hp hH, fun t e => by cases e⟩) _ 0 _ _ rfl z1 (List.Perm.refl _) ⟨fun i i1 i2 i3 i4 v p e1 e2 => ?_, fun c c1 c2 c3 => absurd c3 (Nat.lt_irrefl _), .top⟩ (by omega))
  · have : v ∈ lst :: mid := by simpa using hv
    rcases List.mem_cons.mp this with e | e
    · rw [e]
      simp
    · exact List.mem_cons_of_mem _ (List.mem_append_left _ e)
  · exact hh i i1 i2 v p (hY i i1 v e1) (hY _ (by omega) p e2)
theorem pop1_run {n : Nat} {f : Value} (h : s.heap.get? a = some (lob #[f] n)) (q : ∀ s', StH a s #[] s' → R (.ok (.ret f)) s') :
    wpAny (model prog w) A.in1 (Builtin.«_heapq.heappop» ⟨[.ref a], []⟩) (FPo prog w A R) (fun e s' => R (.error e) s') s := by
  unfold Builtin.«_heapq.heappop»
  refine wpAny_bind (wpAny_bind (wpAny_bind (wpAny_pure (wpAny_pure ?_))))
  dsimp only
  refine wpAny_bind (wpAny_bind (wpAny_isInstance (isl h) sub_list ?_))
  rw [if_pos rfl]
  refine wpAny_pure (wpAny_pure ?_)
  dsimp only
  refine wpAny_bind (wpAny_bind (wpAny_seqItems h rfl (wpAny_pure ?_)))
  have hb : (#[f] : Array Value).back? = some f := by simp
  rw [hb]
  dsimp only
  have hs : sizeLine = 16777216 := sizeLine_eq
  have z0 := (StH.refl h).swap fun x => x.pop
  refine wpAny_bind (wpAny_updateSeq h rfl ?_ (by show 1 ≤ sizeLine; omega) (by rw [Array.size_pop]; show 0 ≤ sizeLine + 1; omega))
  rw [if_pos (by simp)]
  refine wpAny_bind (wpAny_pure ?_)
  exact wpAny_pure (q _ z0)
theorem push_run (hu : A.in1.units + 2 < cLine) {n : Nat} {X : Array Value} {v : Value} (h : s.heap.get? a = some (lob X n)) (hz : X.size + 1 ≤ sizeLine)
    (hk : ∀ u ∈ X.push v, KeyH a s wd u) (hh : Hpd (leV wd) X 0) (q : ∀ X' s', StH a s X' s' → X'.toList.Perm (X.push v).toList → Hpd (leV wd) X' 0 → R (.ok (.ret .none)) s') :
    wpAny (model prog w) A.in1 (Builtin.«_heapq.heappush» ⟨[.ref a, v], []⟩) (FPo prog w A R) (fun e s' => R (.error e) s') s := by
  unfold Builtin.«_heapq.heappush»
  refine wpAny_bind (wpAny_bind (wpAny_pure ?_))
  refine wpAny_bind (wpAny_pure ?_)
  dsimp only
  refine wpAny_bind (wpAny_bind (wpAny_isInstance (isl h) sub_list ?_))
  rw [if_pos rfl]
  refine wpAny_pure (wpAny_pure ?_)
  dsimp only
  have z0 := (StH.refl h).swap fun x => x.push v
  refine wpAny_bind (wpAny_updateSeq h rfl ?_ (by omega) (by rw [Array.size_push]; omega))
  obtain ⟨n1, h1⟩ := z0.get
  refine wpAny_bind (wpAny_bind (wpAny_seqItems h1 rfl (wpAny_pure ?_)))
  have hs : (X.push v).size - 1 = X.size := by rw [Array.size_push]; omega
  rw [hs]
  have hY : ∀ (i : Nat) (u : Value), i ≠ X.size → (X.push v)[i]? = some u → X[i]? = some u := fun i u hi e => by
    rw [Array.getElem?_push, if_neg hi] at e
    exact e
  refine go_on (top := 0) (after := -1) (run_up (s0 := s) (wd := wd) (top := 0) hu (X.push v) hk (by rw [Array.size_push]; omega) (fun X s' z hp hH => ⟨fun _ => q X s' z hp hH, fun t e => by cases e⟩) X.size _ _ z0 (List.Perm.refl _) ⟨fun i i1 i2 i3 u p e1 e2 => ?_, fun c c1 c2 c3 u p e1 e2 => ?_, ?_⟩ (by rw [Array.size_push]; omega))
  · have hi := (Array.getElem?_eq_some_iff.mp e1).1
    rw [Array.size_push] at hi
    exact hh i i1 i2 u p (hY i u i3 e1) (hY _ p (by omega) e2)
  · have hi := (Array.getElem?_eq_some_iff.mp e1).1
    rw [Array.size_push] at hi
    omega
  · have : ∀ k, Sub 0 k := fun k => by
      induction k using Nat.strongRecOn with
      | _ k ih =>
        by_cases hk0 : k = 0
        · rw [hk0]
          exact .top
        · exact .down (ih ((k - 1) / 2) (by omega)) (by omega) rfl
    exact this _
theorem ify_run (hu : A.in1.units + 2 < cLine) {n : Nat} {X : Array Value} (h : s.heap.get? a = some (lob X n)) (hz : X.size ≤ 2500)
    (hk : ∀ u ∈ X, KeyH a s wd u) (q : ∀ X' s', StH a s X' s' → X'.toList.Perm X.toList → Hpd (leV wd) X' 0 → R (.ok (.ret .none)) s') :
    wpAny (model prog w) A.in1 (Builtin.«_heapq.heapify» ⟨[.ref a], []⟩) (FPo prog w A R) (fun e s' => R (.error e) s') s := by
  have hs : sizeLine = 16777216 := sizeLine_eq
  unfold Builtin.«_heapq.heapify»
  refine wpAny_bind (wpAny_bind (wpAny_bind (wpAny_pure (wpAny_pure ?_))))
  dsimp only
  refine wpAny_bind (wpAny_bind (wpAny_isInstance (isl h) sub_list ?_))
  rw [if_pos rfl]
  refine wpAny_pure (wpAny_pure ?_)
  dsimp only
  refine wpAny_bind (wpAny_bind (wpAny_seqItems h rfl (wpAny_pure ?_)))
  rw [if_neg (show ¬ (X.size > 2500) by omega)]
  by_cases h2 : X.size < 2
  · rw [if_pos h2]
    refine wpAny_bind (wpAny_pure ?_)
    refine wpAny_pure (q X s (StH.refl h) (List.Perm.refl _) fun i i1 i2 v p e1 e2 => ?_)
    have := (Array.getElem?_eq_some_iff.mp e1).1
    omega
  · rw [if_neg h2]
    have e1 : (((X.size / 2 : Nat) : Int) - 2) = ((X.size / 2 - 1 : Nat) : Int) - 1 := by omega
    rw [e1]
    have hall := run_all (prog := prog) (w := w) (A := A) (s0 := s) (wd := wd) (R := R) (res := .none) hu X hk (by omega) (fun X' s' z hp hH => q X' s' z hp hH) (X.size / 2 - 1 + 1) (by omega) X s (StH.refl h) (List.Perm.refl _) (fun i i1 i2 v p e1 e2 => by
      have := (Array.getElem?_eq_some_iff.mp e1).1
      omega)
    exact go_on (hall.2 (X.size / 2 - 1) rfl)
end
end Fp

set_option Elab.async false
set_option linter.all false
set_option maxRecDepth 100000
set_option maxHeartbeats 2000000
/-! heapify, heappush, heappop of ranks of words: the rules -/
namespace L2
open PySem PySem.Spec PyProof.Rows
abbrev PQ : Type := List (Addr × Str)
/-- a list in heap order -/
def HpL (ws : List Str) : Prop := ∀ i, 1 ≤ i → ∀ a b, ws[i]? = some a → ws[(i - 1) / 2]? = some b → Fp.leR b a = true
def QAt (H : Hp) (ps : PQ) : Prop := ∀ p ∈ ps, H p.1 = some (.tup [.int (-(p.2.length : Int)), .str p.2])
def adr : Value → Addr
  | .ref p => p
  | _ => 0
def wdQ (ps : PQ) (v : Value) : Str := ((ps.find? fun p => decide (p.1 = adr v)).map (·.2)).getD ""
theorem wdQ_of {H : Hp} {ps : PQ} (h : QAt H ps) {p : Addr × Str} (hp : p ∈ ps) : wdQ ps (.ref p.1) = p.2 := by
  unfold wdQ
  cases e : ps.find? fun q => decide (q.1 = adr (.ref p.1)) with
  | none =>
    have := List.find?_eq_none.mp e p hp
    exact absurd (decide_eq_true rfl) this
  | some q =>
    have h1 := List.mem_of_find?_eq_some e
    have h2 := List.find?_some e
    have h2 : q.1 = p.1 := of_decide_eq_true h2
    have h3 := h q h1
    have h4 := h p hp
    rw [h2, h4] at h3
    injection h3 with h3
    injection h3 with h3
    injection h3 with _ h3
    injection h3 with h3 _
    injection h3 with h3
    exact h3.symm
/-- the values of a queue, in another order, are those of a queue in another order -/
theorem wdQ_perm {H : Hp} {ps : PQ} (h : QAt H ps) {vs : List Value} (hp : vs.Perm (ps.map fun p => Value.ref p.1)) : ∃ ps' : PQ, ps'.Perm ps ∧ vs = ps'.map fun p => Value.ref p.1 := by
  refine ⟨vs.map fun v => (adr v, wdQ ps v), ?_, ?_⟩
  · have h1 := hp.map fun v => ((adr v, wdQ ps v) : Addr × Str)
    rw [List.map_map] at h1
    have h2 : ps.map ((fun v => ((adr v, wdQ ps v) : Addr × Str)) ∘ fun p => Value.ref p.1) = ps := by
      conv => rhs; rw [← List.map_id ps]
      apply List.map_congr_left
      intro p hp
      show ((p.1, wdQ ps (.ref p.1)) : Addr × Str) = p
      rw [wdQ_of h hp]
    rw [h2] at h1
    exact h1
  · rw [List.map_map]
    conv => lhs; rw [← List.map_id vs]
    apply List.map_congr_left
    intro v hv
    obtain ⟨p, _, rfl⟩ := List.mem_map.mp (hp.mem_iff.mp hv)
    rfl
theorem QAt.perm {H : Hp} {ps ps' : PQ} (h : QAt H ps) (hp : ps'.Perm ps) : QAt H ps' := fun p hq => h p (hp.mem_iff.mp hq)
theorem hpd_l {H : Hp} {ps ps' : PQ} (h : QAt H ps) (hp : ps'.Perm ps) (x : Fp.Hpd (Fp.leV (wdQ ps)) (ps'.map fun p => Value.ref p.1).toArray 0) : HpL (ps'.map (·.2)) := fun i i1 a b e1 e2 => by
  rw [List.getElem?_map] at e1 e2
  cases q1 : ps'[i]? with
  | none => rw [q1] at e1; cases e1
  | some p1 =>
    cases q2 : ps'[(i - 1) / 2]? with
    | none => rw [q2] at e2; cases e2
    | some p2 =>
      rw [q1] at e1
      rw [q2] at e2
      cases e1
      cases e2
      have := x i i1 (Nat.zero_le _) (.ref p1.1) (.ref p2.1) (by simp [q1]) (by simp [q2])
      have h1 := wdQ_of h (hp.mem_iff.mp (List.mem_of_getElem? q1))
      have h2 := wdQ_of h (hp.mem_iff.mp (List.mem_of_getElem? q2))
      have this : Fp.leR (wdQ ps (.ref p2.1)) (wdQ ps (.ref p1.1)) = true := this
      rw [h1, h2] at this
      exact this
theorem l_hpd {H : Hp} {ps qs : PQ} (h : QAt H ps) (hs : ∀ p ∈ qs, p ∈ ps) (x : HpL (qs.map (·.2))) : Fp.Hpd (Fp.leV (wdQ ps)) (qs.map fun p => Value.ref p.1).toArray 0 := fun i i1 i2 v u e1 e2 => by
  simp only [List.getElem?_toArray, List.getElem?_map] at e1 e2
  cases q1 : qs[i]? with
  | none => rw [q1] at e1; cases e1
  | some p1 =>
    cases q2 : qs[(i - 1) / 2]? with
    | none => rw [q2] at e2; cases e2
    | some p2 =>
      rw [q1] at e1
      rw [q2] at e2
      cases e1
      cases e2
      show Fp.leR (wdQ ps (.ref p2.1)) (wdQ ps (.ref p1.1)) = true
      rw [wdQ_of h (hs _ (List.mem_of_getElem? q1)), wdQ_of h (hs _ (List.mem_of_getElem? q2))]
      exact x i i1 p1.2 p2.2 (by rw [List.getElem?_map, q1]; rfl) (by rw [List.getElem?_map, q2]; rfl)
section
variable {X : Cx}
theorem keyq_of {pins : List (Addr × Obj)} {σ : St} {H : Hp} {s : Shared} (I : Inv X pins σ H s) {q : Addr} {xs : List V} (hq : H q = some (.lst xs)) {ps : PQ} (h : QAt H ps) : ∀ p ∈ ps, Fp.KeyH q s (wdQ ps) (.ref p.1) := fun p hp => by
  have hp' := h p hp
  obtain ⟨its, r, pl, hz⟩ := I.tuple (.inl (.inl hp'))
  obtain ⟨o, ho, hc, n, hd⟩ := (show s.heap.IsTuple p.1 its.toArray from pl)
  refine ⟨?_, fun e => ?_⟩
  · rw [wdQ_of h hp]
    cases r with
    | cons r1 r =>
      cases r with
      | cons r2 r =>
        cases r
        obtain ⟨t1, rfl⟩ := r1
        obtain ⟨t2, rfl⟩ := r2
        exact ⟨p.1, o, t1, t2, n, rfl, ho, hc, hd⟩
  · injection e with e
    rw [e, hq] at hp'
    cases hp'
theorem inv_q {pins : List (Addr × Obj)} {σ : St} {H : Hp} {s s' : Shared} (I : Inv X pins σ H s) {q : Addr} {xs : List V} (hq : H q = some (.lst xs)) {Y : Array Value} (z : Fp.StH q s Y s') {qs : PQ} (e : Y.toList = qs.map fun p => Value.ref p.1) (hz : qs.length ≤ sizeLine) :
    Inv X pins σ (upd H q (.lst (qs.map fun p => V.ref p.1))) s' := by
  obtain ⟨h, n, rfl, h1, h2⟩ := z
  have hY : Y = (qs.map fun p => Value.ref p.1).toArray := by rw [← e]
  rw [hY] at h1
  refine I.write (x := q) (e := q) (by rw [hq]; exact trivial) (.inl rfl) (fun b' u hb hu => h2 b' u hb hu) ⟨_, h1⟩ ?_
  refine ⟨by rw [List.length_map]; exact hz, _, _, ?_, h1⟩
  clear e hY h1 hz
  induction qs with
  | nil => exact .nil
  | cons p r ih => exact .cons rfl ih
theorem refsq_of : ∀ {ps : PQ} {us : List Value}, Vals (ps.map fun p => V.ref p.1) us → us = ps.map fun p => Value.ref p.1
  | [], _, h => by cases h; rfl
  | p :: ps, _, h => by
    cases h with
    | cons r t =>
      cases r
      rw [refsq_of t] <;> rfl
theorem kind_ify : builtinKind "_heapq.heapify" = none := by kernel_rfl
theorem kind_pop : builtinKind "_heapq.heappop" = none := by kernel_rfl
theorem kind_push : builtinKind "_heapq.heappush" = none := by kernel_rfl
theorem plain_ify : plainId "_heapq.heapify" = true := by decide +kernel
theorem plain_pop : plainId "_heapq.heappop" = true := by decide +kernel
theorem plain_push : plainId "_heapq.heappush" = true := by decide +kernel
theorem entry_ify : entryFor table "_heapq.heapify" = some Builtin.«_heapq.heapify» := entryFor_of_tree (by kernel_rfl)
theorem entry_pop : entryFor table "_heapq.heappop" = some Builtin.«_heapq.heappop» := entryFor_of_tree (by kernel_rfl)
theorem entry_push : entryFor table "_heapq.heappush" = some Builtin.«_heapq.heappush» := entryFor_of_tree (by kernel_rfl)
theorem args_ify (v : Value) : argsOk "_heapq.heapify" ⟨[v], []⟩ := by unfold argsOk; kernel_rfl
theorem args_pop (v : Value) : argsOk "_heapq.heappop" ⟨[v], []⟩ := by unfold argsOk; kernel_rfl
theorem args_push (v u : Value) : argsOk "_heapq.heappush" ⟨[v, u], []⟩ := by unfold argsOk; kernel_rfl
def rHIfy : List V → Hp → VK → Prop := fun vs H Q => ∃ (q : Addr) (ps : PQ), vs = [.ref q] ∧ H q = some (.lst (ps.map fun p => V.ref p.1)) ∧ QAt H ps ∧ ps.length ≤ 2500 ∧
  ∀ qs : PQ, qs.Perm ps → HpL (qs.map (·.2)) → Q .non (upd H q (.lst (qs.map fun p => V.ref p.1)))
theorem cr_ify (hr : Room 3 X.A) : CallR X (.builtin "_heapq.heapify") rHIfy := by
  intro pins s σ H vs us Q I r h
  obtain ⟨q, ps, rfl, hq, hk, hz, k⟩ := h
  obtain rfl := Vals.ref1 r
  obtain ⟨z, its, n, r2, hl, e⟩ := I.lstM hq
  have ei := refsq_of r2
  subst ei
  refine call_function_meets (S := fun A R s' => s' = s ∧ A = X.A ∧ R = wants (EP X pins σ Q) X.xe) kind_ify plain_ify entry_ify (args_ify _) (fun prog w A R s' hS => ?_) ⟨rfl, rfl, rfl⟩
  obtain ⟨rfl, rfl, rfl⟩ := hS
  refine Fp.ify_run (wd := wdQ ps) hr.in1.in1.in1.units0 e (by simp; exact hz) (fun u hu => ?_) (fun Y s' zz hp hH => ?_)
  · have : u ∈ ps.map fun p => Value.ref p.1 := by simpa using hu
    obtain ⟨p, hp, rfl⟩ := List.mem_map.mp this
    exact keyq_of I hq hk p hp
  · obtain ⟨qs, h1, h2⟩ := wdQ_perm hk (vs := Y.toList) (by simpa using hp)
    have hs : sizeLine = 16777216 := sizeLine_eq
    have I2 := inv_q I hq zz h2 (by rw [h1.length_eq]; omega)
    refine ⟨.non, _, I2, rfl, k qs h1 (hpd_l hk h1 ?_)⟩
    have : Y = (qs.map fun p => Value.ref p.1).toArray := by rw [← h2]
    rw [← this]
    exact hH
def rHPush : List V → Hp → VK → Prop := fun vs H Q => ∃ (q t : Addr) (x : Str) (ps : PQ), vs = [.ref q, .ref t] ∧ H q = some (.lst (ps.map fun p => V.ref p.1)) ∧ QAt H (ps ++ [(t, x)]) ∧ ps.length + 1 ≤ sizeLine ∧ HpL (ps.map (·.2)) ∧
  ∀ qs : PQ, qs.Perm (ps ++ [(t, x)]) → HpL (qs.map (·.2)) → Q .non (upd H q (.lst (qs.map fun p => V.ref p.1)))
theorem cr_push (hr : Room 3 X.A) : CallR X (.builtin "_heapq.heappush") rHPush := by
  intro pins s σ H vs us Q I r h
  obtain ⟨q, t, x, ps, rfl, hq, hk, hz, hh, k⟩ := h
  obtain ⟨u1, u2, rfl, r1, r2⟩ : ∃ u1 u2, us = [u1, u2] ∧ RelV (V.ref q) u1 ∧ RelV (V.ref t) u2 := by
    cases r with
    | cons a r =>
      cases r with
      | cons b r =>
        cases r
        exact ⟨_, _, rfl, a, b⟩
  cases r1
  cases r2
  obtain ⟨z, its, n, r2, hl, e⟩ := I.lstM hq
  have ei := refsq_of r2
  subst ei
  have epush : ((ps.map fun p => Value.ref p.1).toArray.push (.ref t)).toList = (ps ++ [(t, x)]).map fun p => Value.ref p.1 := by simp
  refine call_function_meets (S := fun A R s' => s' = s ∧ A = X.A ∧ R = wants (EP X pins σ Q) X.xe) kind_push plain_push entry_push (args_push _ _) (fun prog w A R s' hS => ?_) ⟨rfl, rfl, rfl⟩
  obtain ⟨rfl, rfl, rfl⟩ := hS
  refine Fp.push_run (wd := wdQ (ps ++ [(t, x)])) hr.in1.in1.in1.units0 e (by simp; exact hz) (fun u hu => ?_) (l_hpd hk (fun p hp => List.mem_append_left _ hp) hh) (fun Y s' zz hp hH => ?_)
  · have : u ∈ (ps ++ [(t, x)]).map fun p => Value.ref p.1 := by
      rw [← epush]
      exact Array.mem_toList_iff.mpr hu
    obtain ⟨p, hp, rfl⟩ := List.mem_map.mp this
    exact keyq_of I hq hk p hp
  · rw [epush] at hp
    obtain ⟨qs, h1, h2⟩ := wdQ_perm hk hp
    have I2 := inv_q I hq zz h2 (by rw [h1.length_eq, List.length_append]; exact hz)
    refine ⟨.non, _, I2, rfl, k qs h1 (hpd_l hk h1 ?_)⟩
    have : Y = (qs.map fun p => Value.ref p.1).toArray := by rw [← h2]
    rw [← this]
    exact hH
def rHPop : List V → Hp → VK → Prop := fun vs H Q => ∃ (q : Addr) (ps : PQ), vs = [.ref q] ∧ H q = some (.lst (ps.map fun p => V.ref p.1)) ∧ QAt H ps ∧ ps ≠ [] ∧ HpL (ps.map (·.2)) ∧
  ∀ (p : Addr × Str) (qs : PQ), (p :: qs).Perm ps → HpL (qs.map (·.2)) → (∀ r ∈ qs, Fp.leR p.2 r.2 = true) → Q (.ref p.1) (upd H q (.lst (qs.map fun p => V.ref p.1)))
theorem cr_pop (hr : Room 3 X.A) : CallR X (.builtin "_heapq.heappop") rHPop := by
  intro pins s σ H vs us Q I r h
  obtain ⟨q, ps, rfl, hq, hk, hne, hh, k⟩ := h
  obtain rfl := Vals.ref1 r
  obtain ⟨z, its, n, r2, hl, e⟩ := I.lstM hq
  have ei := refsq_of r2
  subst ei
  rw [List.length_map] at z
  refine call_function_meets (S := fun A R s' => s' = s ∧ A = X.A ∧ R = wants (EP X pins σ Q) X.xe) kind_pop plain_pop entry_pop (args_pop _) (fun prog w A R s' hS => ?_) ⟨rfl, rfl, rfl⟩
  obtain ⟨rfl, rfl, rfl⟩ := hS
  cases ps with
  | nil => exact absurd rfl hne
  | cons p rest =>
    rcases List.eq_nil_or_concat rest with rfl | ⟨mid, lst, hrest⟩
    · refine Fp.pop1_run (f := .ref p.1) e (fun s' zz => ?_)
      have I2 := inv_q I hq zz (qs := []) rfl (Nat.zero_le _)
      exact ⟨.ref p.1, _, I2, rfl, k p [] (List.Perm.refl _) (fun i _ a b e => by simp at e) (fun r hr => by cases hr)⟩
    · rw [List.concat_eq_append] at hrest
      subst hrest
      have ev : (p :: (mid ++ [lst])).map (fun p => Value.ref p.1) = .ref p.1 :: ((mid.map fun p => Value.ref p.1) ++ [.ref lst.1]) := by simp
      have e' : s'.heap.get? q = some (Fp.lob (.ref p.1 :: ((mid.map fun p => Value.ref p.1) ++ [.ref lst.1])).toArray n) := by
        rw [← ev]
        exact e
      have hl0 := l_hpd hk (fun p hp => hp) hh
      rw [ev] at hl0
      refine Fp.pop_run (wd := wdQ (p :: (mid ++ [lst]))) hr.in1.in1.in1.units0 e' (by rw [List.length_map]; simp at z; omega) (fun u hu => ?_) hl0 (fun Y s2 zz hp hH => ?_)
      · rw [← ev] at hu
        obtain ⟨r, hr', rfl⟩ := List.mem_map.mp hu
        exact keyq_of I hq hk r hr'
      · have hk2 : QAt H (mid ++ [lst]) := fun r hr' => hk r (List.mem_cons_of_mem _ hr')
        have hp2 : Y.toList.Perm ((mid ++ [lst]).map fun p => Value.ref p.1) := by
          refine hp.trans ?_
          rw [List.map_append]
          exact (List.perm_append_comm (l₁ := [Value.ref lst.1])).trans (List.Perm.refl _)
        obtain ⟨qs, h1, h2⟩ := wdQ_perm hk2 hp2
        have I2 := inv_q I hq zz h2 (by rw [h1.length_eq]; simp at z ⊢; omega)
        have hqs : ∀ r ∈ qs, r ∈ p :: (mid ++ [lst]) := fun r hr' => List.mem_cons_of_mem _ (h1.mem_iff.mp hr')
        have eY : Y = (qs.map fun p => Value.ref p.1).toArray := by rw [← h2]
        rw [eY] at hH
        refine ⟨.ref p.1, _, I2, rfl, k p qs (h1.cons p) (fun i i1 a b e1 e2 => ?_) fun r hr' => ?_⟩
        · rw [List.getElem?_map] at e1 e2
          cases q1 : qs[i]? with
          | none => rw [q1] at e1; cases e1
          | some p1 =>
            cases q2 : qs[(i - 1) / 2]? with
            | none => rw [q2] at e2; cases e2
            | some p2 =>
              rw [q1] at e1
              rw [q2] at e2
              cases e1
              cases e2
              have := hH i i1 (Nat.zero_le _) (.ref p1.1) (.ref p2.1) (by simp [q1]) (by simp [q2])
              have g1 := wdQ_of hk (hqs _ (List.mem_of_getElem? q1))
              have g2 := wdQ_of hk (hqs _ (List.mem_of_getElem? q2))
              have this : Fp.leR (wdQ (p :: (mid ++ [lst])) (.ref p2.1)) (wdQ (p :: (mid ++ [lst])) (.ref p1.1)) = true := this
              rw [g1, g2] at this
              exact this
        · have hr2 : r ∈ p :: (mid ++ [lst]) := hqs r hr'
          have h0 : Fp.Hpd (Fp.leV (wdQ (p :: (mid ++ [lst])))) ((p :: (mid ++ [lst])).map fun p => Value.ref p.1).toArray 0 := l_hpd hk (fun p hp => hp) hh
          obtain ⟨i, hi, ei⟩ := List.mem_iff_getElem.mp hr2
          have := h0.least (fun a => (Fp.leV_tot a a).elim id id) Fp.leV_tr (m := .ref p.1) (by simp) i (.ref r.1) (by
            simp only [List.getElem?_toArray, List.getElem?_map]
            rw [List.getElem?_eq_getElem hi, ei]
            rfl)
          have this : Fp.leR (wdQ (p :: (mid ++ [lst])) (.ref p.1)) (wdQ (p :: (mid ++ [lst])) (.ref r.1)) = true := this
          rw [wdQ_of hk List.mem_cons_self, wdQ_of hk hr2] at this
          exact this
end
end L2

set_option Elab.async false
set_option linter.all false
set_option maxRecDepth 100000
set_option maxHeartbeats 4000000
namespace Fp
open PySem PySem.Spec PyProof.Rows L2
/-- the shortest beginning of z among ws -/
def startOf (ws : List Str) (z : Str) : Option Str := (List.range (z.length + 1)).findSome? fun (k : Nat) => if cutS z none (some (k : Int)) ∈ ws then some (cutS z none (some (k : Int))) else none
theorem startOf_none {ws : List Str} {z : Str} (h : ∀ k : Nat, k < z.length + 1 → cutS z none (some (k : Int)) ∉ ws) : startOf ws z = none := by
  unfold startOf
  rw [List.findSome?_eq_none_iff]
  intro k hk
  rw [if_neg (h k (List.mem_range.mp hk))]
theorem startOf_hit {ws : List Str} {z : Str} {i : Nat} (hi : i < z.length + 1) (hm : cutS z none (some (i : Int)) ∈ ws) (h : ∀ k : Nat, k < i → cutS z none (some (k : Int)) ∉ ws) : startOf ws z = some (cutS z none (some (i : Int))) := by
  unfold startOf
  obtain ⟨m, hm2⟩ : ∃ m, z.length + 1 = i + (1 + m) := ⟨z.length - i, by omega⟩
  rw [hm2, List.range_add, List.findSome?_append, List.findSome?_eq_none_iff.mpr (fun k hk => by rw [if_neg (h k (List.mem_range.mp hk))]), Option.none_or, List.range_add, List.map_append, List.findSome?_append]
  have e1 : List.findSome? (fun (k : Nat) => if cutS z none (some (k : Int)) ∈ ws then some (cutS z none (some (k : Int))) else none) ((List.range 1).map (i + ·)) = some (cutS z none (some (i : Int))) := by
    simp [hm]
  rw [e1]
  rfl
theorem val_some {kvs : List (Key × V)} {ws : List Str} (h : kvs.map (·.1) = ws.map Sum.inr) {s : Str} : (valV kvs (Sum.inr s)).isSome = decide (s ∈ ws) := by
  unfold valV
  rw [Option.isSome_map, Bool.eq_iff_iff, List.find?_isSome, decide_eq_true_iff]
  refine ⟨fun ⟨p, hp, e⟩ => ?_, fun hs => ?_⟩
  · have e := of_decide_eq_true e
    have : p.1 ∈ ws.map Sum.inr := by rw [← h]; exact List.mem_map.mpr ⟨p, hp, rfl⟩
    rw [e] at this
    obtain ⟨y, hy, e2⟩ := List.mem_map.mp this
    cases e2
    exact hy
  · have : (Sum.inr s : Key) ∈ kvs.map (·.1) := by rw [h]; exact List.mem_map.mpr ⟨s, hs, rfl⟩
    obtain ⟨p, hp, e⟩ := List.mem_map.mp this
    exact ⟨p, hp, decide_eq_true e⟩
def optV : Option Str → V
  | some s => .str s
  | none => .non
section
variable {P : Program} {w : World} {K : PySem.W.Frag} {mg : Str → Option Value} {base : Heap}
def spRank : Sp := fun vs H Q _ => ∃ z : Str, vs = [.str z] ∧ z.length ≤ sizeLine ∧ ∀ p, H p = none → Q (.ref p) (upd H p (.tup [.int (-(z.length : Int)), .str z]))
theorem sc_rank : FnScope ["word"] ["word"] (defScope s_rank_of) := ⟨rfl, rfl, rfl, by decide +kernel, rfl, by decide +kernel, by decide +kernel⟩
theorem ok_rank (T : Top K mg) : Ok P w K mg base 1 "rank_of" ["word"] spRank := by
  obtain ⟨fd, F⟩ := fn_rank_of T
  refine ⟨⟨fd, ?_, F.bindsN fun _ _ _ _ _ _ us hl => match us, hl with | [_], _ => rfl⟩, g_rank_of T, F.kp⟩
  refine F.ok sc_rank (fun vs H Q E h => ?_) (fun cdv A outer s H vs Q E hr h => ?_)
  · obtain ⟨z, rfl, _⟩ := h
    rfl
  · obtain ⟨z, rfl, hz, q⟩ := h
    have hs : sizeLine = 16777216 := sizeLine_eq
    refine ⟨_, PSs.nox (pss_one (ps_ret (pe_tup (pa_cons (pe_un un_neg (pe_callB call_len_str (by rfl) (f_len T) PySem.boot_len (pa_cons (pv 0) pa_nil))) (pa_cons (pv 0) pa_nil))))), ?_⟩
    exact ⟨_, rfl, z, rfl, hz, _, rfl, _, rfl, by show 2 ≤ sizeLine; omega, fun p hp => q p hp⟩
def spFirstW : Sp := fun vs H Q _ => ∃ (d : Addr) (kvs : List (Key × V)) (ws : List Str), vs = [.ref d] ∧ H d = some (.dK kvs) ∧ kvs.map (·.1) = ws.map Sum.inr ∧ ws ≠ [] ∧ (∀ x ∈ ws, x.length ≤ sizeLine) ∧ ∀ m ∈ ws, (∀ y ∈ ws, leR m y = true) → Q (.str m) H
theorem sc_firstW : FnScope ["table"] ["table"] (defScope s_first_word) := ⟨rfl, rfl, rfl, by decide +kernel, rfl, by decide +kernel, by decide +kernel⟩
theorem ok_firstW (T : Top K mg) : Ok P w K mg base 4 "first_word" ["table"] spFirstW := by
  obtain ⟨fd, F⟩ := fn_first_word T
  obtain ⟨fdR, FR⟩ := fn_rank_of T
  refine ⟨⟨fd, ?_, F.bindsN fun _ _ _ _ _ _ us hl => match us, hl with | [_], _ => rfl⟩, g_first_word T, F.kp⟩
  refine F.ok sc_firstW (fun vs H Q E h => ?_) (fun cdv A outer s H vs Q E hr h => ?_)
  · obtain ⟨d, kvs, ws, rfl, _⟩ := h
    rfl
  · obtain ⟨d, kvs, ws, rfl, hd, hk, hne, hw, q⟩ := h
    refine ⟨_, PSs.nox (pss_one (ps_ret (pe_callBK (cr_minRk rfl FR (f_len T) hr) (by rfl) (f_min T) (by decide +kernel) (pa_cons (pv 0) pa_nil) (pk_cons (pe_glob (v := .ref (He.ga K "rank_of")) rfl (g_rank_of T) rfl) pk_nil)))), ?_⟩
    exact ⟨_, rfl, d, kvs, ws, rfl, rfl, hd, hk, hne, hw, q⟩
def spStart : Sp := fun vs H Q _ => ∃ (z : Str) (D : Addr) (kvs : List (Key × V)) (ws : List Str), vs = [.str z, .ref D] ∧ z.length ≤ 1000 ∧ H D = some (.dK kvs) ∧ kvs.map (·.1) = ws.map Sum.inr ∧ Q (optV (startOf ws z)) H
end
end Fp

set_option Elab.async false
set_option linter.all false
set_option maxRecDepth 100000
set_option maxHeartbeats 4000000
namespace Fp
open PySem PySem.Spec PyProof.Rows L2
/-- n times u, b behind each word, taken off t -/
def takeT (c n : Int) (b : Str) (u t : Tb) : Tb := u.foldl (fun t p => putT t (p.1 ++ b) ((num t (p.1 ++ b) - n * p.2) % c)) t
theorem takeT_take {c n : Int} {b : Str} {u : Tb} {i : Nat} {p : Str × Int} (e : u[i]? = some p) (t : Tb) : takeT c n b (u.take (i + 1)) t = putT (takeT c n b (u.take i) t) (p.1 ++ b) ((num (takeT c n b (u.take i) t) (p.1 ++ b) - n * p.2) % c) := by
  unfold takeT
  rw [List.take_add_one, e, List.foldl_append]
  rfl
theorem putT_len (l : Tb) (x : Str) (n : Int) : (putT l x n).length ≤ l.length + 1 := by
  unfold putT
  split
  · rw [List.length_map]
    omega
  · rw [List.length_append]
    exact Nat.le_refl _
theorem takeT_len (c n : Int) (b : Str) : ∀ (u t : Tb), (takeT c n b u t).length ≤ t.length + u.length
  | [], t => by show t.length ≤ _; exact Nat.le_add_right _ _
  | p :: u, t => by
    have h := takeT_len c n b u (putT t (p.1 ++ b) ((num t (p.1 ++ b) - n * p.2) % c))
    have h2 := putT_len t (p.1 ++ b) ((num t (p.1 ++ b) - n * p.2) % c)
    have e0 : takeT c n b (p :: u) t = takeT c n b u (putT t (p.1 ++ b) ((num t (p.1 ++ b) - n * p.2) % c)) := rfl
    rw [e0, List.length_cons]
    omega
abbrev At : Type := List (Addr × Tb)
section
variable {P : Program} {w : World} {K : PySem.W.Frag} {mg : Str → Option Value} {base : Heap}
structure TakePre (H : Hp) (L C : Addr) (n : Int) (b : Str) (c : Int) (ts us : At) : Prop where
  hc : 0 < c
  hc7 : c ≤ 7
  hb : b.length ≤ 1000
  hL : H L = some (.lst (ts.map fun p => V.ref p.1))
  hC : H C = some (.lst (us.map fun p => V.ref p.1))
  len : ts.length = us.length
  nd : (ts.map (·.1)).Nodup
  ht : ∀ p ∈ ts, H p.1 = some (.dK (kv p.2)) ∧ p.2.length ≤ 4000000
  hu : ∀ p ∈ us, H p.1 = some (.dK (kv p.2)) ∧ p.1 ∉ ts.map (·.1) ∧ (∀ q ∈ p.2, 1 ≤ q.2 ∧ q.2 < c ∧ q.1.length ≤ 1000) ∧ p.2.length ≤ 1000000
def spTake : Sp := fun vs H Q _ => ∃ (L C : Addr) (n : Int) (b : Str) (c : Int) (ts us : At), vs = [.ref L, .ref C, .int n, .str b, .int c] ∧ TakePre H L C n b c ts us ∧
  ∀ H', (∀ a o, H a = some o → a ∉ ts.map (·.1) → H' a = some o) → (∀ (i : Nat) (p q : Addr × Tb), ts[i]? = some p → us[i]? = some q → H' p.1 = some (.dK (kv (takeT c n b q.2 p.2)))) → Q .non H'
abbrev nTake : List Str := ["left", "column", "number", "back", "clock", "table", "pieces", "piece", "amount"]
end
end Fp

set_option Elab.async false
set_option linter.all false
set_option maxRecDepth 100000
set_option maxHeartbeats 4000000
namespace Fp
open PySem PySem.Spec PyProof.Rows L2
/-! ### taking off, the numbers -/
theorem num_put_self {l : Tb} {x : Str} (n : Int) : num (putT l x n) x = n := by
  unfold putT
  cases h : has l x with
  | true =>
    rw [if_pos rfl]
    induction l with
    | nil => cases h
    | cons p r ih =>
      rw [List.map_cons, num_cons]
      by_cases e : p.1 = x
      · rw [if_pos e]
        show (if p.1 = x then n else num _ x) = n
        rw [if_pos e]
      · rw [if_neg e, if_neg e]
        refine ih ?_
        have h2 : (decide (p.1 = x) || has r x) = true := h
        rw [decide_eq_false e, Bool.false_or] at h2
        exact h2
  | false =>
    rw [if_neg Bool.false_ne_true]
    induction l with
    | nil => rw [List.nil_append, num_cons, if_pos rfl]
    | cons p r ih =>
      have h2 : (decide (p.1 = x) || has r x) = false := h
      obtain ⟨h3, h4⟩ := Bool.or_eq_false_iff.mp h2
      rw [List.cons_append, num_cons, if_neg (of_decide_eq_false h3), ih h4]
theorem num_takeT {c n : Int} {b : Str} : ∀ (u t : Tb) (x : Str), num (takeT c n b u t) x % c = (num t x - tot (bwd (b, n) u) x) % c
  | [], t, x => by
    show num t x % c = (num t x - tot [] x) % c
    rw [tot_nil, Int.sub_zero]
  | p :: u, t, x => by
    have e0 : takeT c n b (p :: u) t = takeT c n b u (putT t (p.1 ++ b) ((num t (p.1 ++ b) - n * p.2) % c)) := rfl
    have e1 : bwd (b, n) (p :: u) = (p.1 ++ b, p.2 * n) :: bwd (b, n) u := rfl
    rw [e0, num_takeT u, e1, tot_cons]
    by_cases e : p.1 ++ b = x
    · subst e
      rw [num_put_self, if_pos rfl, Int.sub_emod, Int.emod_emod_of_dvd _ (Int.dvd_refl c), ← Int.sub_emod, Int.mul_comm n p.2]
      congr 1
      omega
    · rw [num_put_ne _ e, if_neg e, Int.zero_add]
theorem takeT_nd {c n : Int} {b : Str} : ∀ (u t : Tb), Nd t → Nd (takeT c n b u t)
  | [], _, h => h
  | p :: u, t, h => takeT_nd u (putT t (p.1 ++ b) ((num t (p.1 ++ b) - n * p.2) % c)) (nd_put h _ _)
theorem takeT_key {c n : Int} {b : Str} : ∀ (u t : Tb) (x : Str), x ∈ (takeT c n b u t).map (·.1) ↔ x ∈ t.map (·.1) ∨ ∃ p ∈ u, p.1 ++ b = x
  | [], t, x => by
    show x ∈ t.map (·.1) ↔ _
    simp
  | p :: u, t, x => by
    have e0 : takeT c n b (p :: u) t = takeT c n b u (putT t (p.1 ++ b) ((num t (p.1 ++ b) - n * p.2) % c)) := rfl
    rw [e0, takeT_key u, putT_keys]
    cases h : has t (p.1 ++ b) with
    | true =>
      rw [if_pos rfl]
      have hm := has_iff.mp h
      constructor
      · rintro (z | ⟨q, hq, e⟩)
        · exact .inl z
        · exact .inr ⟨q, List.mem_cons_of_mem _ hq, e⟩
      · rintro (z | ⟨q, hq, e⟩)
        · exact .inl z
        · rcases List.mem_cons.mp hq with rfl | hq
          · exact .inl (e ▸ hm)
          · exact .inr ⟨q, hq, e⟩
    | false =>
      rw [if_neg Bool.false_ne_true, List.mem_append, List.mem_singleton]
      constructor
      · rintro ((z | z) | ⟨q, hq, e⟩)
        · exact .inl z
        · exact .inr ⟨p, List.mem_cons_self, z.symm⟩
        · exact .inr ⟨q, List.mem_cons_of_mem _ hq, e⟩
      · rintro (z | ⟨q, hq, e⟩)
        · exact .inl (.inl z)
        · rcases List.mem_cons.mp hq with rfl | hq
          · exact .inl (.inr e.symm)
          · exact .inr ⟨q, hq, e⟩
theorem put_rg {c : Int} {t : Tb} {x : Str} {n : Int} (h : ∀ p ∈ t, 0 ≤ p.2 ∧ p.2 < c) (hn : 0 ≤ n ∧ n < c) : ∀ p ∈ putT t x n, 0 ≤ p.2 ∧ p.2 < c := fun p hp => by
  unfold putT at hp
  split at hp
  · obtain ⟨q, hq, rfl⟩ := List.mem_map.mp hp
    split
    · exact hn
    · exact h q hq
  · rcases List.mem_append.mp hp with hp | hp
    · exact h p hp
    · have : p = (x, n) := by simpa using hp
      subst this
      exact hn
theorem takeT_rg {c n : Int} {b : Str} (hc : 0 < c) : ∀ (u t : Tb), (∀ p ∈ t, 0 ≤ p.2 ∧ p.2 < c) → ∀ p ∈ takeT c n b u t, 0 ≤ p.2 ∧ p.2 < c
  | [], _, h => h
  | p :: u, t, h => takeT_rg hc u _ (put_rg h ⟨Int.emod_nonneg _ (by omega), Int.emod_lt_of_pos _ hc⟩)
theorem num_rg {c : Int} {t : Tb} (hc : 0 < c) (h : ∀ p ∈ t, 0 ≤ p.2 ∧ p.2 < c) (x : Str) : 0 ≤ num t x ∧ num t x < c := by
  unfold num
  cases e : t.find? fun p => decide (p.1 = x) with
  | none => exact ⟨Int.le_refl _, hc⟩
  | some p => exact h p (List.mem_of_find?_eq_some e)
/-- as sums: u with n, b behind, less -/
theorem lk_takeT {c n : Int} {b : Str} {u t : Tb} (h : Nd t) : Lk c (takeT c n b u t) (t ++ scl (-1) (bwd (b, n) u)) := fun x => by
  rw [tot_num (takeT_nd u t h), num_takeT, tot_app, tot_scl, tot_num h]
  congr 1
  omega
/-! ### how many words there are -/
def stp (a : Nat) (w : Str) : Str := ⟨#[a] ++ w.cps⟩
def thr (w : Str) : List Str := [stp 120 w, stp 121 w, stp 122 w]
def allW : Nat → List Str
  | 0 => [""]
  | m + 1 => "" :: (allW m).flatMap thr
theorem flat3 (l : List Str) : (l.flatMap thr).length = 3 * l.length := by
  induction l with
  | nil => rfl
  | cons a r ih =>
    rw [List.flatMap_cons, List.length_append, ih, List.length_cons]
    show 3 + 3 * r.length = 3 * (r.length + 1)
    omega
theorem allW_len : ∀ m, (allW m).length + 1 ≤ 3 ^ (m + 1)
  | 0 => by decide
  | m + 1 => by
    have h := allW_len m
    have e : (allW (m + 1)).length = 3 * (allW m).length + 1 := by
      show ((("" : Str) :: (allW m).flatMap thr : List Str)).length = _
      rw [List.length_cons, flat3]
    have e2 : 3 ^ (m + 1 + 1) = 3 * 3 ^ (m + 1) := by rw [Nat.pow_succ, Nat.mul_comm]
    rw [e, e2]
    omega
theorem allW_mem : ∀ (m : Nat) (w : Str), xyz w → w.length ≤ m → w ∈ allW m
  | m, w, hx, hl => by
    obtain ⟨⟨l⟩⟩ := w
    cases l with
    | nil =>
      cases m with
      | zero => exact List.mem_singleton.mpr rfl
      | succ m => exact List.mem_cons_self
    | cons a r =>
      cases m with
      | zero =>
        have : (a :: r).length ≤ 0 := hl
        simp at this
      | succ m =>
        refine List.mem_cons_of_mem _ (List.mem_flatMap.mpr ⟨⟨⟨r⟩⟩, allW_mem m ⟨⟨r⟩⟩ (fun c hc => hx c (List.mem_cons_of_mem _ hc)) ?_, ?_⟩)
        · have : (a :: r).length ≤ m + 1 := hl
          show r.length ≤ m
          rw [List.length_cons] at this
          omega
        · have e : ∀ k, a = k → (⟨⟨a :: r⟩⟩ : Str) = stp k ⟨⟨r⟩⟩ := fun k hk => by
            subst hk
            unfold stp
            simp
          rcases hx a List.mem_cons_self with z | z | z
          · rw [e _ z]
            exact List.mem_cons_self
          · rw [e _ z]
            exact List.mem_cons_of_mem _ List.mem_cons_self
          · rw [e _ z]
            exact List.mem_cons_of_mem _ (List.mem_cons_of_mem _ List.mem_cons_self)
theorem words_few {l : List Str} {m : Nat} (h : l.Nodup) (hw : ∀ w ∈ l, xyz w ∧ w.length ≤ m) : l.length < 3 ^ (m + 1) := by
  have := List.Nodup.length_le_of_subset h (fun w hm => allW_mem m w (hw w hm).1 (hw w hm).2)
  have := allW_len m
  omega
/-! ### beginnings -/
theorem startOf_some {ws : List Str} {z s : Str} (h : startOf ws z = some s) : s ∈ ws ∧ ∃ k : Nat, k ≤ z.length ∧ s = cutS z none (some (k : Int)) := by
  unfold startOf at h
  obtain ⟨k, hk, e⟩ := List.exists_of_findSome?_eq_some h
  split at e
  · rename_i hm
    cases e
    exact ⟨hm, k, by have := List.mem_range.mp hk; omega, rfl⟩
  · cases e
end Fp

set_option Elab.async false
set_option linter.all false
set_option maxRecDepth 100000
set_option maxHeartbeats 4000000
namespace Fp
open PySem PySem.Spec PyProof.Rows L2
/-! ### the order of words -/
theorem leR_iff {a b : Str} : leR a b = true ↔ b.length < a.length ∨ (a.length = b.length ∧ ¬ b.cps.toList < a.cps.toList) := by
  have e0 : leR a b = !PySem.W.dataLt (rk b) (rk a) := rfl
  rw [e0]
  unfold rk
  rw [PySem.W.dataLt_pair rfl rfl]
  by_cases h : a.length = b.length
  · have hv : PyData.eqv (.int (-(b.length : Int))) (.int (-(a.length : Int))) = true := by
      simp only [PyData.eqv]
      simp [h]
    rw [hv, if_pos rfl, PySem.W.dataLt_str]
    by_cases e : b = a
    · subst e
      have hv2 : PyData.eqv (.str b) (.str b) = true := by simp [PyData.eqv]
      rw [hv2, if_pos rfl]
      exact ⟨fun _ => .inr ⟨rfl, List.lt_irrefl _⟩, fun _ => rfl⟩
    · have hv2 : PyData.eqv (.str b) (.str a) = false := by simp [PyData.eqv, e]
      rw [hv2, if_neg Bool.false_ne_true]
      constructor
      · intro z
        refine .inr ⟨h, fun y => ?_⟩
        rw [decide_eq_true y] at z
        cases z
      · rintro (z | ⟨_, z⟩)
        · omega
        · rw [decide_eq_false z]
          rfl
  · have hv : PyData.eqv (.int (-(b.length : Int))) (.int (-(a.length : Int))) = false := by
      simp only [PyData.eqv]
      have : ¬ (-(b.length : Int) = -(a.length : Int)) := by omega
      simpa using this
    rw [hv, if_neg Bool.false_ne_true, PySem.W.dataLt_int]
    constructor
    · intro z
      by_cases y : b.length < a.length
      · exact .inl y
      · have : -(b.length : Int) < -(a.length : Int) := by omega
        rw [decide_eq_true this] at z
        cases z
    · rintro (z | ⟨z, _⟩)
      · rw [decide_eq_false (by omega)]
        rfl
      · exact absurd z h
theorem lt_suffix : ∀ {s r z : List Nat}, s.length = r.length → (s ++ z < r ++ z ↔ s < r)
  | [], [], z, _ => ⟨fun h => absurd h (List.lt_irrefl _), fun h => absurd h (List.lt_irrefl _)⟩
  | [], _ :: _, _, h => by simp at h
  | _ :: _, [], _, h => by simp at h
  | a :: s, b :: r, z, h => by
    have h' : s.length = r.length := by simpa using h
    rw [List.cons_append, List.cons_append, List.cons_lt_cons_iff, List.cons_lt_cons_iff, lt_suffix h']
theorem lt_prefix : ∀ {z s r : List Nat}, (z ++ s < z ++ r ↔ s < r)
  | [], _, _ => Iff.rfl
  | a :: z, s, r => by
    rw [List.cons_append, List.cons_append, List.cons_lt_cons_iff, lt_prefix]
    constructor
    · rintro (h | ⟨_, h⟩)
      · exact absurd h (Nat.lt_irrefl _)
      · exact h
    · exact fun h => .inr ⟨rfl, h⟩
theorem app_len (u v : Str) : (u ++ v).length = u.length + v.length := by
  show (u.cps ++ v.cps).size = u.cps.size + v.cps.size
  exact Array.size_append
theorem app_list (u v : Str) : (u ++ v).cps.toList = u.cps.toList ++ v.cps.toList := by
  show (u.cps ++ v.cps).toList = _
  exact Array.toList_append
theorem len_list (u : Str) : u.cps.toList.length = u.length := by
  show u.cps.toList.length = u.cps.size
  exact Array.length_toList
theorem leR_app_r {s r z : Str} (h : leR s r = true) : leR (s ++ z) (r ++ z) = true := by
  rw [leR_iff] at h ⊢
  rw [app_len, app_len, app_list, app_list]
  rcases h with h | ⟨h, g⟩
  · exact .inl (by omega)
  · exact .inr ⟨by omega, fun y => g ((lt_suffix (by rw [len_list, len_list, h])).mp y)⟩
theorem leR_app_l {s r z : Str} (h : leR s r = true) : leR (z ++ s) (z ++ r) = true := by
  rw [leR_iff] at h ⊢
  rw [app_len, app_len, app_list, app_list]
  rcases h with h | ⟨h, g⟩
  · exact .inl (by omega)
  · exact .inr ⟨by omega, fun y => g (lt_prefix.mp y)⟩
theorem leR_len' {a b : Str} (h : leR a b = true) : b.length ≤ a.length := by
  rcases leR_iff.mp h with h | ⟨h, _⟩ <;> omega
theorem leR_trans {a b c : Str} (h : leR a b = true) (g : leR b c = true) : leR a c = true := leR_total.trans _ _ _ h g
/-! ### beginnings and ends of a word -/
theorem cut_front_list {z : Str} {k : Nat} (h : k ≤ z.length) : (cutS z none (some (k : Int))).cps.toList = z.cps.toList.take k := by
  unfold cutS
  rw [show HT.sIx z.length z.length (some (k : Int)) = min k z.length from HT.sIx_nat _ _ k, HT.sIx_none, List.drop_zero, Nat.sub_zero, Nat.min_eq_left h]
theorem cut_back_list {z : Str} {k : Nat} (h : k ≤ z.length) : (cutS z (some (k : Int)) none).cps.toList = z.cps.toList.drop k := by
  unfold cutS
  rw [show HT.sIx z.length 0 (some (k : Int)) = min k z.length from HT.sIx_nat _ _ k, HT.sIx_none, Nat.min_eq_left h]
  show ((z.cps.toList.drop k).take (z.length - k)) = _
  refine List.take_of_length_le ?_
  rw [List.length_drop, len_list]
  exact Nat.le_refl _
theorem cut_len {z : Str} {k : Nat} (h : k ≤ z.length) : (cutS z none (some (k : Int))).length = k := by
  rw [← len_list, cut_front_list h, List.length_take, len_list, Nat.min_eq_left h]
theorem cut_both {z : Str} {k : Nat} (h : k ≤ z.length) : cutS z none (some (k : Int)) ++ cutS z (some (k : Int)) none = z := by
  refine PySem.W.str_of_cps ?_
  rw [app_list, cut_front_list h, cut_back_list h, List.take_append_drop]
end Fp

set_option Elab.async false
set_option linter.all false
set_option maxRecDepth 100000
set_option maxHeartbeats 4000000
namespace Fp
open PySem PySem.Spec PyProof.Rows L2
/-! ### a level table cut in two: pure mathematics -/
def fw (s : Nat) (z : Str) : Str := cutS z none (some (s : Int))
def bw (s : Nat) (z : Str) : Str := cutS z (some (s : Int)) none
theorem fw_bw {s : Nat} {z : Str} (h : s ≤ z.length) : fw s z ++ bw s z = z := cut_both h
theorem fw_len {s : Nat} {z : Str} (h : s ≤ z.length) : (fw s z).length = s := cut_len h
theorem bw_len {s : Nat} {z : Str} (h : s ≤ z.length) : (bw s z).length = z.length - s := by
  rw [← len_list, show bw s z = cutS z (some (s : Int)) none from rfl, cut_back_list h, List.length_drop, len_list]
theorem fw_app (a b : Str) : fw a.length (a ++ b) = a := PySem.W.str_of_cps (by
  rw [show fw a.length (a ++ b) = cutS (a ++ b) none (some (a.length : Int)) from rfl, cut_front_list (by rw [app_len]; omega), app_list, ← len_list a, List.take_left'] <;> rfl)
theorem bw_app (a b : Str) : bw a.length (a ++ b) = b := PySem.W.str_of_cps (by
  rw [show bw a.length (a ++ b) = cutS (a ++ b) (some (a.length : Int)) none from rfl, cut_back_list (by rw [app_len]; omega), app_list, ← len_list a, List.drop_left'] <;> rfl)
theorem app_iff {s : Nat} {z u v : Str} (hz : s ≤ z.length) (hu : u.length = s) : z = u ++ v ↔ fw s z = u ∧ bw s z = v := by
  subst hu
  constructor
  · rintro rfl
    exact ⟨fw_app u v, bw_app u v⟩
  · rintro ⟨h1, h2⟩
    rw [← fw_bw hz, h1, h2]
theorem xyz_fw {s : Nat} {z : Str} (h : s ≤ z.length) (hz : xyz z) : xyz (fw s z) := fun c hc => by
  rw [show fw s z = cutS z none (some (s : Int)) from rfl, cut_front_list h] at hc
  exact hz c (List.mem_of_mem_take hc)
theorem xyz_bw {s : Nat} {z : Str} (h : s ≤ z.length) (hz : xyz z) : xyz (bw s z) := fun c hc => by
  rw [show bw s z = cutS z (some (s : Int)) none from rfl, cut_back_list h] at hc
  exact hz c (List.mem_of_mem_drop hc)
def Lev (n : Nat) (l : Tb) : Prop := ∀ p ∈ l, p.1.length = n
def frT (s : Nat) (h : Str) (l : Tb) : Tb := (l.filter fun p => decide (bw s p.1 = bw s h)).map fun p => (fw s p.1, p.2)
def bkT (s : Nat) (h : Str) (l : Tb) : Tb := (l.filter fun p => decide (fw s p.1 = fw s h)).map fun p => (bw s p.1, p.2)
theorem fr_cons (s : Nat) (h : Str) (p : Str × Int) (r : Tb) : frT s h (p :: r) = if bw s p.1 = bw s h then (fw s p.1, p.2) :: frT s h r else frT s h r := by
  unfold frT
  by_cases e : bw s p.1 = bw s h
  · rw [if_pos e, List.filter_cons_of_pos (by simpa using e)]
    rfl
  · rw [if_neg e, List.filter_cons_of_neg (by simpa using e)]
theorem bk_cons (s : Nat) (h : Str) (p : Str × Int) (r : Tb) : bkT s h (p :: r) = if fw s p.1 = fw s h then (bw s p.1, p.2) :: bkT s h r else bkT s h r := by
  unfold bkT
  by_cases e : fw s p.1 = fw s h
  · rw [if_pos e, List.filter_cons_of_pos (by simpa using e)]
    rfl
  · rw [if_neg e, List.filter_cons_of_neg (by simpa using e)]
theorem num_fr {s n : Nat} {h : Str} (hs : s ≤ n) : ∀ {l : Tb}, Lev n l → ∀ {u : Str}, u.length = s → num (frT s h l) u = num l (u ++ bw s h)
  | [], _, _, _ => rfl
  | p :: r, hl, u, hu => by
    have ih := num_fr (h := h) hs (l := r) (fun q hq => hl q (List.mem_cons_of_mem _ hq)) hu
    have hp := hl p List.mem_cons_self
    have key := app_iff (z := p.1) (u := u) (v := bw s h) (by omega) hu
    rw [fr_cons, num_cons]
    by_cases e : bw s p.1 = bw s h
    · rw [if_pos e, num_cons]
      show (if fw s p.1 = u then p.2 else _) = _
      by_cases e2 : fw s p.1 = u
      · rw [if_pos e2, if_pos (key.mpr ⟨e2, e⟩)]
      · rw [if_neg e2, if_neg (fun z => e2 (key.mp z).1), ih]
    · rw [if_neg e, if_neg (fun z => e (key.mp z).2), ih]
theorem num_bk {s n : Nat} {h : Str} (hs : s ≤ n) (hh : h.length = n) : ∀ {l : Tb}, Lev n l → ∀ {v : Str}, num (bkT s h l) v = num l (fw s h ++ v)
  | [], _, _ => rfl
  | p :: r, hl, v => by
    have ih := num_bk hs hh (l := r) (fun q hq => hl q (List.mem_cons_of_mem _ hq)) (v := v)
    have hp := hl p List.mem_cons_self
    have key := app_iff (z := p.1) (u := fw s h) (v := v) (by omega) (fw_len (by omega))
    rw [bk_cons, num_cons]
    by_cases e : fw s p.1 = fw s h
    · rw [if_pos e, num_cons]
      show (if bw s p.1 = v then p.2 else _) = _
      by_cases e2 : bw s p.1 = v
      · rw [if_pos e2, if_pos (key.mpr ⟨e, e2⟩)]
      · rw [if_neg e2, if_neg (fun z => e2 (key.mp z).2), ih]
    · rw [if_neg e, if_neg (fun z => e (key.mp z).1), ih]
theorem fr_mem {s n : Nat} {h : Str} (hs : s ≤ n) {l : Tb} (hl : Lev n l) {q : Str × Int} (hq : q ∈ frT s h l) : ∃ p ∈ l, q = (fw s p.1, p.2) ∧ bw s p.1 = bw s h ∧ q.1.length = s := by
  obtain ⟨p, hp, rfl⟩ := List.mem_map.mp hq
  obtain ⟨h1, h2⟩ := List.mem_filter.mp hp
  exact ⟨p, h1, rfl, of_decide_eq_true h2, fw_len (by rw [hl p h1]; exact hs)⟩
theorem bk_mem {s n : Nat} {h : Str} (hs : s ≤ n) {l : Tb} (hl : Lev n l) {q : Str × Int} (hq : q ∈ bkT s h l) : ∃ p ∈ l, q = (bw s p.1, p.2) ∧ fw s p.1 = fw s h ∧ q.1.length = n - s := by
  obtain ⟨p, hp, rfl⟩ := List.mem_map.mp hq
  obtain ⟨h1, h2⟩ := List.mem_filter.mp hp
  exact ⟨p, h1, rfl, of_decide_eq_true h2, by show (bw s p.1).length = _; rw [bw_len (by rw [hl p h1]; exact hs), hl p h1]⟩
theorem nd_pair {l : Tb} (h : Nd l) : l.Pairwise fun p q => p.1 ≠ q.1 := List.pairwise_map.mp h
theorem nd_fr {s n : Nat} {h : Str} (hs : s ≤ n) {l : Tb} (hn : Nd l) (hl : Lev n l) : Nd (frT s h l) := by
  show List.Pairwise (· ≠ ·) ((frT s h l).map (·.1))
  unfold frT
  rw [List.map_map, List.pairwise_map]
  refine List.Pairwise.imp_of_mem (fun {p q} hp hq hne y => ?_) ((nd_pair hn).filter _)
  obtain ⟨hp1, hp2⟩ := List.mem_filter.mp hp
  obtain ⟨hq1, hq2⟩ := List.mem_filter.mp hq
  have y : fw s p.1 = fw s q.1 := y
  have e := (of_decide_eq_true hp2).trans (of_decide_eq_true hq2).symm
  exact hne (by rw [← fw_bw (z := p.1) (s := s) (by rw [hl p hp1]; exact hs), ← fw_bw (z := q.1) (s := s) (by rw [hl q hq1]; exact hs), y, e])
theorem nd_bk {s n : Nat} {h : Str} (hs : s ≤ n) {l : Tb} (hn : Nd l) (hl : Lev n l) : Nd (bkT s h l) := by
  show List.Pairwise (· ≠ ·) ((bkT s h l).map (·.1))
  unfold bkT
  rw [List.map_map, List.pairwise_map]
  refine List.Pairwise.imp_of_mem (fun {p q} hp hq hne y => ?_) ((nd_pair hn).filter _)
  obtain ⟨hp1, hp2⟩ := List.mem_filter.mp hp
  obtain ⟨hq1, hq2⟩ := List.mem_filter.mp hq
  have y : bw s p.1 = bw s q.1 := y
  have e := (of_decide_eq_true hp2).trans (of_decide_eq_true hq2).symm
  exact hne (by rw [← fw_bw (z := p.1) (s := s) (by rw [hl p hp1]; exact hs), ← fw_bw (z := q.1) (s := s) (by rw [hl q hq1]; exact hs), y, e])
theorem fr_len (s : Nat) (h : Str) (l : Tb) : (frT s h l).length ≤ l.length := by
  unfold frT
  rw [List.length_map]
  exact List.length_filter_le _ _
theorem bk_len (s : Nat) (h : Str) (l : Tb) : (bkT s h l).length ≤ l.length := by
  unfold bkT
  rw [List.length_map]
  exact List.length_filter_le _ _
theorem vt_fr {s n : Nat} {h : Str} {c : Int} {m k : Nat} (hs : s ≤ n) {l : Tb} (v : VT c m k l) (hl : Lev n l) : VT c s k (frT s h l) := by
  refine ⟨nd_fr hs v.nd hl, fun q hq => ?_, fun q hq => ?_, Nat.le_trans (fr_len _ _ _) v.ln⟩
  · obtain ⟨p, hp, rfl, _⟩ := fr_mem hs hl hq
    exact v.nu p hp
  · obtain ⟨p, hp, rfl, _, e⟩ := fr_mem hs hl hq
    exact ⟨xyz_fw (by rw [hl p hp]; exact hs) (v.wd p hp).1, Nat.le_of_eq e⟩
theorem vt_bk {s n : Nat} {h : Str} {c : Int} {m k : Nat} (hs : s ≤ n) {l : Tb} (v : VT c m k l) (hl : Lev n l) : VT c (n - s) k (bkT s h l) := by
  refine ⟨nd_bk hs v.nd hl, fun q hq => ?_, fun q hq => ?_, Nat.le_trans (bk_len _ _ _) v.ln⟩
  · obtain ⟨p, hp, rfl, _⟩ := bk_mem hs hl hq
    exact v.nu p hp
  · obtain ⟨p, hp, rfl, _, e⟩ := bk_mem hs hl hq
    exact ⟨xyz_bw (by rw [hl p hp]; exact hs) (v.wd p hp).1, Nat.le_of_eq e⟩
/-! by a clock -/
theorem ck_unit {c t : Int} (hc : isCk c) (ht : t % c ≠ 0) : ∃ m, c ∣ t * m - 1 := by
  obtain ⟨hc2, hc7⟩ := ck_range hc
  obtain ⟨ns, _, h⟩ := inv_get hc
  have h0 := Int.emod_nonneg t (show c ≠ 0 by omega)
  have h1 := Int.emod_lt_of_pos t (show 0 < c by omega)
  obtain ⟨r, hr⟩ : ∃ r : Nat, t % c = r := ⟨(t % c).toNat, (Int.toNat_of_nonneg h0).symm⟩
  obtain ⟨m, _, _, _, h4⟩ := h r (by omega)
  obtain ⟨h5, _⟩ := h4 (by omega)
  refine ⟨m, Int.dvd_of_emod_eq_zero ?_⟩
  have e1 : t * m % c = 1 := by
    rw [Int.mul_emod, hr, ← h5, Int.mul_emod (r : Int) m, Int.emod_eq_of_lt (show (0 : Int) ≤ r by omega) (show (r : Int) < c by omega)]
  have : (1 : Int) % c = 1 := Int.emod_eq_of_lt (by decide) (by omega)
  rw [Int.sub_emod, e1, this]
  rfl
theorem ck_cancel {c t x : Int} (hc : isCk c) (ht : t % c ≠ 0) (h : c ∣ t * x) : c ∣ x := by
  obtain ⟨m, k, hk⟩ := ck_unit hc ht
  obtain ⟨j, hj⟩ := h
  refine ⟨j * m - k * x, ?_⟩
  have e1 : t * x * m = c * j * m := by rw [hj]
  have e2 : (t * m - 1) * x = c * k * x := by rw [hk]
  grind
/-- no four words cross -/
def NC (c : Int) (s : Nat) (l : Tb) : Prop := ∀ a b d e : Str, a.length = s → b.length = s → c ∣ num l (a ++ d) * num l (b ++ e) - num l (a ++ e) * num l (b ++ d)
/-- of one rank -/
def R1 (c : Int) (s : Nat) (h : Str) (l : Tb) : Prop := ∀ u v : Str, u.length = s → c ∣ num l h * num l (u ++ v) - num l (u ++ bw s h) * num l (fw s h ++ v)
theorem nc_of {c : Int} {s : Nat} {h : Str} {l : Tb} (hc : isCk c) (ht : num l h % c ≠ 0) (r : R1 c s h l) : NC c s l := by
  intro a b d e ha hb
  obtain ⟨k1, h1⟩ := r a d ha
  obtain ⟨k2, h2⟩ := r b e hb
  obtain ⟨k3, h3⟩ := r a e ha
  obtain ⟨k4, h4⟩ := r b d hb
  refine ck_cancel hc ht (ck_cancel hc ht ?_)
  generalize num l h = t at *
  generalize num l (a ++ d) = x at *
  generalize num l (b ++ e) = y at *
  generalize num l (a ++ e) = z at *
  generalize num l (b ++ d) = w at *
  generalize num l (a ++ bw s h) = p at *
  generalize num l (b ++ bw s h) = q at *
  generalize num l (fw s h ++ d) = f at *
  generalize num l (fw s h ++ e) = g at *
  have e1 : t * x = p * f + c * k1 := by omega
  have e2 : t * y = q * g + c * k2 := by omega
  have e3 : t * z = p * g + c * k3 := by omega
  have e4 : t * w = q * f + c * k4 := by omega
  refine ⟨k1 * q * g + k2 * p * f + c * k1 * k2 - (k3 * q * f + k4 * p * g + c * k3 * k4), ?_⟩
  have e5 : t * (t * (x * y - z * w)) = (t * x) * (t * y) - (t * z) * (t * w) := by grind
  rw [e5, e1, e2, e3, e4]
  grind
theorem nc_r1 {c : Int} {s : Nat} {h : Str} {l : Tb} (hs : s ≤ h.length) (n : NC c s l) : R1 c s h l := by
  intro u v hu
  have := n (fw s h) u (bw s h) v (fw_len hs) hu
  rw [fw_bw hs] at this
  rw [show num l (u ++ bw s h) * num l (fw s h ++ v) = num l (fw s h ++ v) * num l (u ++ bw s h) from Int.mul_comm _ _]
  exact this
/-! ### the program's own look -/
def hdW (l : Tb) : Str := (ordW l).headD ""
theorem hd_first {l : Tb} (h : l ≠ []) : hdW l ∈ l.map (·.1) ∧ ∀ y ∈ l.map (·.1), leR (hdW l) y = true := by
  cases e : ordW l with
  | nil =>
    have := ordW_len l
    rw [e] at this
    exact absurd (List.eq_nil_of_length_eq_zero this.symm) h
  | cons x tl =>
    have hs : (ordW l).Pairwise (fun a b => leR a b = true) := PySem.W.sort_pairwise leR_total _
    rw [e] at hs
    have ex : hdW l = x := by
      unfold hdW
      rw [e]
      rfl
    rw [ex]
    refine ⟨ordW_mem.mp (by rw [e]; exact List.mem_cons_self), fun y hy => ?_⟩
    have hm : y ∈ ordW l := ordW_mem.mpr hy
    rw [e] at hm
    rcases List.mem_cons.mp hm with z | z
    · subst z
      rcases leR_total.total y y with z | z <;> exact z
    · exact (List.pairwise_cons.mp hs).1 _ z
def odd (c : Int) (s : Nat) (l : Tb) (p : Str × Int) : Bool := decide ((num l (hdW l) * p.2 - num (frT s (hdW l) l) (fw s p.1) * num (bkT s (hdW l) l) (bw s p.1)) % c ≠ 0)
def lackT (s : Nat) (l : Tb) : List (Str × Str) := ((frT s (hdW l) l).flatMap fun p => (bkT s (hdW l) l).map fun q => (p.1, q.1)).filter fun z => !has l (z.1 ++ z.2)
def crossOf (c : Int) (s : Nat) (l : Tb) : Option (Str × Str × Str × Str) :=
  match l.find? (odd c s l) with
  | some p => some (fw s (hdW l), fw s p.1, bw s (hdW l), bw s p.1)
  | none => if l.length = (frT s (hdW l) l).length * (bkT s (hdW l) l).length then none else match lackT s l with
    | [] => none
    | z :: _ => some (fw s (hdW l), z.1, bw s (hdW l), z.2)
theorem num_pos {c : Int} {m k : Nat} {l : Tb} (v : VT c m k l) {x : Str} (h : x ∈ l.map (·.1)) : 1 ≤ num l x ∧ num l x < c := by
  obtain ⟨p, hp, rfl⟩ := List.mem_map.mp h
  obtain ⟨i, e⟩ := List.getElem?_of_mem hp
  rw [num_of v.nd e]
  exact v.nu p hp
theorem not_dvd {c x : Int} (h1 : 1 ≤ x) (h2 : x < c) : x % c ≠ 0 := by
  rw [Int.emod_eq_of_lt (by omega) h2]
  omega
section
variable {c : Int} {m k s n : Nat} {l : Tb}
/-- every word is put together of a front and a back, where nothing is odd -/
theorem even_parts (hc : isCk c) (v : VT c m k l) (hl : Lev n l) (hne : l ≠ []) (hs : s ≤ n) (ho : l.find? (odd c s l) = none) {p : Str × Int} (hp : p ∈ l) : fw s p.1 ∈ (frT s (hdW l) l).map (·.1) ∧ bw s p.1 ∈ (bkT s (hdW l) l).map (·.1) := by
  have h1 := List.find?_eq_none.mp ho p hp
  have h2 : (num l (hdW l) * p.2 - num (frT s (hdW l) l) (fw s p.1) * num (bkT s (hdW l) l) (bw s p.1)) % c = 0 := by
    unfold odd at h1
    simpa using h1
  obtain ⟨hh, _⟩ := hd_first hne
  obtain ⟨g1, g2⟩ := num_pos v hh
  obtain ⟨g3, g4⟩ := v.nu p hp
  have key : ¬ (num (frT s (hdW l) l) (fw s p.1) * num (bkT s (hdW l) l) (bw s p.1) = 0) := fun z => by
    rw [z, Int.sub_zero] at h2
    have := ck_cancel hc (not_dvd g1 g2) (Int.dvd_of_emod_eq_zero h2)
    exact not_dvd g3 g4 (Int.emod_eq_zero_of_dvd this)
  constructor
  · refine Classical.byContradiction fun z => key ?_
    rw [num_not z, Int.zero_mul]
  · refine Classical.byContradiction fun z => key ?_
    rw [num_not z, Int.mul_zero]
theorem fb_inj (hl : Lev n l) (hs : s ≤ n) {p q : Str × Int} (hp : p ∈ l) (hq : q ∈ l) (h1 : fw s p.1 = fw s q.1) (h2 : bw s p.1 = bw s q.1) : p.1 = q.1 := by
  rw [← fw_bw (z := p.1) (s := s) (by rw [hl p hp]; exact hs), ← fw_bw (z := q.1) (s := s) (by rw [hl q hq]; exact hs), h1, h2]
def prods (s : Nat) (l : Tb) : List (Str × Str) := (frT s (hdW l) l).flatMap fun p => (bkT s (hdW l) l).map fun q => (p.1, q.1)
theorem prods_len (s : Nat) (l : Tb) : (prods s l).length = (frT s (hdW l) l).length * (bkT s (hdW l) l).length := by
  unfold prods
  rw [List.length_flatMap]
  simp only [List.length_map]
  generalize (frT s (hdW l) l) = A
  generalize (bkT s (hdW l) l).length = n
  induction A with
  | nil => simp
  | cons a A ih => rw [List.map_cons, List.sum_cons, ih, List.length_cons, Nat.succ_mul, Nat.add_comm]
theorem prods_mem {z : Str × Str} : z ∈ prods s l ↔ z.1 ∈ (frT s (hdW l) l).map (·.1) ∧ z.2 ∈ (bkT s (hdW l) l).map (·.1) := by
  unfold prods
  simp only [List.mem_flatMap, List.mem_map]
  constructor
  · rintro ⟨p, hp, q, hq, rfl⟩
    exact ⟨⟨p, hp, rfl⟩, ⟨q, hq, rfl⟩⟩
  · rintro ⟨⟨p, hp, e1⟩, ⟨q, hq, e2⟩⟩
    exact ⟨p, hp, q, hq, by rw [e1, e2]⟩
theorem prods_nd (v : VT c m k l) (hl : Lev n l) (hs : s ≤ n) : (prods s l).Nodup := by
  have h1 : ((frT s (hdW l) l).map (·.1)).Nodup := nd_fr hs v.nd hl
  have h2 : ((bkT s (hdW l) l).map (·.1)).Nodup := nd_bk hs v.nd hl
  have e : prods s l = ((frT s (hdW l) l).map (·.1)).flatMap fun a => ((bkT s (hdW l) l).map (·.1)).map fun b => (a, b) := by
    unfold prods
    rw [List.flatMap_map]
    simp only [List.map_map]
    rfl
  rw [e]
  generalize (frT s (hdW l) l).map (·.1) = A at h1 ⊢
  generalize (bkT s (hdW l) l).map (·.1) = B at h2 ⊢
  induction A with
  | nil => simp
  | cons a A ih =>
    rw [List.flatMap_cons, List.nodup_append]
    obtain ⟨g1, g2⟩ := List.nodup_cons.mp h1
    refine ⟨?_, ih g2, ?_⟩
    · exact List.Pairwise.map _ (fun x y hne z => hne (by injection z)) h2
    · intro x hx y hy z
      obtain ⟨b, _, rfl⟩ := List.mem_map.mp hx
      obtain ⟨a', ha', hy'⟩ := List.mem_flatMap.mp hy
      obtain ⟨b', _, rfl⟩ := List.mem_map.mp hy'
      injection z with z1 z2
      exact g1 (z1 ▸ ha')
theorem words_in (hc : isCk c) (v : VT c m k l) (hl : Lev n l) (hne : l ≠ []) (hs : s ≤ n) (ho : l.find? (odd c s l) = none) : (l.map fun p => (fw s p.1, bw s p.1)).Nodup ∧ ∀ z ∈ l.map (fun p => (fw s p.1, bw s p.1)), z ∈ prods s l := by
  constructor
  · show List.Pairwise (· ≠ ·) _
    rw [List.pairwise_map]
    refine List.Pairwise.imp_of_mem (fun {p q} hp hq hne2 y => ?_) (nd_pair v.nd)
    injection y with y1 y2
    exact hne2 (fb_inj hl hs hp hq y1 y2)
  · intro z hz
    obtain ⟨p, hp, rfl⟩ := List.mem_map.mp hz
    exact prods_mem.mpr (even_parts hc v hl hne hs ho hp)
theorem nodup_full {α : Type} [DecidableEq α] {A B : List α} (hA : A.Nodup) (hB : B.Nodup) (h : ∀ z ∈ A, z ∈ B) (hlen : B.length ≤ A.length) : ∀ z ∈ B, z ∈ A := by
  intro z hz
  refine Classical.byContradiction fun hn => ?_
  have h1 : (z :: A).Nodup := List.nodup_cons.mpr ⟨hn, hA⟩
  have := List.Nodup.length_le_of_subset h1 (fun y hy => by
    rcases List.mem_cons.mp hy with rfl | hy
    · exact hz
    · exact h y hy)
  rw [List.length_cons] at this
  omega
theorem cross_none (hc : isCk c) (v : VT c m k l) (hl : Lev n l) (hne : l ≠ []) (hs : s ≤ n) (h : crossOf c s l = none) : l.find? (odd c s l) = none ∧ l.length = (frT s (hdW l) l).length * (bkT s (hdW l) l).length := by
  unfold crossOf at h
  cases ho : l.find? (odd c s l) with
  | some p => rw [ho] at h; cases h
  | none =>
    rw [ho] at h
    refine ⟨rfl, ?_⟩
    by_cases e : l.length = (frT s (hdW l) l).length * (bkT s (hdW l) l).length
    · exact e
    · exfalso
      simp only [if_neg e] at h
      cases hk : lackT s l with
      | cons z r => rw [hk] at h; cases h
      | nil =>
        obtain ⟨w1, w2⟩ := words_in hc v hl hne hs ho
        have h3 : ∀ z ∈ prods s l, z ∈ l.map (fun p => (fw s p.1, bw s p.1)) := fun z hz => by
          have h4 : has l (z.1 ++ z.2) = true := by
            cases q : has l (z.1 ++ z.2) with
            | true => rfl
            | false =>
              have : z ∈ lackT s l := List.mem_filter.mpr ⟨hz, by rw [q]; rfl⟩
              rw [hk] at this
              cases this
          obtain ⟨p, hp, e1⟩ := List.mem_map.mp (has_iff.mp h4)
          obtain ⟨q, _, _, _, hlen⟩ := fr_mem hs hl (List.mem_map.mp (prods_mem.mp hz).1).choose_spec.1
          have hzl : z.1.length = s := by
            rw [← (List.mem_map.mp (prods_mem.mp hz).1).choose_spec.2]
            exact hlen
          have := (app_iff (by rw [hl p hp]; exact hs) hzl).mp e1
          exact List.mem_map.mpr ⟨p, hp, by rw [this.1, this.2]⟩
        have l1 := List.Nodup.length_le_of_subset w1 (fun z hz => w2 z hz)
        have l2 := List.Nodup.length_le_of_subset (prods_nd v hl hs) (fun z hz => h3 z hz)
        rw [List.length_map] at l1 l2
        rw [prods_len] at l1 l2
        omega
theorem cross_nc (hc : isCk c) (v : VT c m k l) (hl : Lev n l) (hne : l ≠ []) (hs : s ≤ n) (h : crossOf c s l = none) : NC c s l := by
  obtain ⟨ho, hlen⟩ := cross_none hc v hl hne hs h
  obtain ⟨hh, _⟩ := hd_first hne
  obtain ⟨g1, g2⟩ := num_pos v hh
  have hhl : (hdW l).length = n := by
    obtain ⟨p, hp, e⟩ := List.mem_map.mp hh
    rw [← e]
    exact hl p hp
  obtain ⟨w1, w2⟩ := words_in hc v hl hne hs ho
  refine nc_of (h := hdW l) hc (not_dvd g1 g2) fun a b ha => ?_
  by_cases hm : a ++ b ∈ l.map (·.1)
  · obtain ⟨p, hp, e⟩ := List.mem_map.mp hm
    have h1 := List.find?_eq_none.mp ho p hp
    have h2 : (num l (hdW l) * p.2 - num (frT s (hdW l) l) (fw s p.1) * num (bkT s (hdW l) l) (bw s p.1)) % c = 0 := by
      unfold odd at h1
      simpa using h1
    obtain ⟨e1, e2⟩ := (app_iff (by rw [hl p hp]; exact hs) ha).mp e
    obtain ⟨i, ei⟩ := List.getElem?_of_mem hp
    rw [e1, e2, num_fr hs hl ha, num_bk hs hhl hl, ← num_of v.nd ei, e] at h2
    exact Int.dvd_of_emod_eq_zero h2
  · rw [num_not hm, Int.mul_zero]
    have hz : num l (a ++ bw s (hdW l)) * num l (fw s (hdW l) ++ b) = 0 := by
      refine Classical.byContradiction fun z => ?_
      have z1 : a ∈ (frT s (hdW l) l).map (·.1) := Classical.byContradiction fun y => z (by rw [← num_fr hs hl ha, num_not y, Int.zero_mul])
      have z2 : b ∈ (bkT s (hdW l) l).map (·.1) := Classical.byContradiction fun y => z (by rw [← num_bk hs hhl hl, num_not y, Int.mul_zero])
      have h3 := nodup_full w1 (prods_nd v hl hs) w2 (by rw [prods_len, List.length_map, hlen]; exact Nat.le_refl _) (a, b) (prods_mem.mpr ⟨z1, z2⟩)
      obtain ⟨p, hp, e⟩ := List.mem_map.mp h3
      injection e with e1 e2
      exact hm (List.mem_map.mpr ⟨p, hp, (app_iff (by rw [hl p hp]; exact hs) ha).mpr ⟨e1, e2⟩⟩)
    rw [hz]
    exact ⟨0, by simp⟩
/-- what the four told words are -/
theorem cross_some (hc : isCk c) (v : VT c m k l) (hl : Lev n l) (hne : l ≠ []) (hs : s ≤ n) {a b d e : Str} (h : crossOf c s l = some (a, b, d, e)) :
    a.length = s ∧ b.length = s ∧ d.length = n - s ∧ e.length = n - s ∧ xyz a ∧ xyz b ∧ xyz d ∧ xyz e ∧ ¬ c ∣ num l (a ++ d) * num l (b ++ e) - num l (a ++ e) * num l (b ++ d) := by
  obtain ⟨hh, _⟩ := hd_first hne
  obtain ⟨ph, hph, eh⟩ := List.mem_map.mp hh
  obtain ⟨g1, g2⟩ := num_pos v hh
  have hhl : (hdW l).length = n := by
    rw [← eh]
    exact hl ph hph
  have hx : xyz (hdW l) := eh ▸ (v.wd ph hph).1
  have hsh : s ≤ (hdW l).length := by omega
  unfold crossOf at h
  cases ho : l.find? (odd c s l) with
  | some p =>
    rw [ho] at h
    have h := Option.some.inj h
    simp only [Prod.mk.injEq] at h
    obtain ⟨rfl, rfl, rfl, rfl⟩ := h
    have hp := List.mem_of_find?_eq_some ho
    have hpl := hl p hp
    have hsp : s ≤ p.1.length := by omega
    refine ⟨fw_len hsh, fw_len hsp, by rw [bw_len hsh, hhl], by rw [bw_len hsp, hpl], xyz_fw hsh hx, xyz_fw hsp (v.wd p hp).1, xyz_bw hsh hx, xyz_bw hsp (v.wd p hp).1, fun z => ?_⟩
    have h1 := List.find?_some ho
    have h2 : (num l (hdW l) * p.2 - num (frT s (hdW l) l) (fw s p.1) * num (bkT s (hdW l) l) (bw s p.1)) % c ≠ 0 := of_decide_eq_true h1
    obtain ⟨i, ei⟩ := List.getElem?_of_mem hp
    rw [num_fr hs hl (fw_len hsp), num_bk hs hhl hl, ← num_of v.nd ei] at h2
    rw [fw_bw hsh, fw_bw hsp] at z
    refine h2 (Int.emod_eq_zero_of_dvd ?_)
    rw [Int.mul_comm (num l (fw s p.1 ++ _))]
    exact z
  | none =>
    rw [ho] at h
    by_cases e0 : l.length = (frT s (hdW l) l).length * (bkT s (hdW l) l).length
    · simp only [if_pos e0] at h
      cases h
    simp only [if_neg e0] at h
    cases hk : lackT s l with
    | nil => rw [hk] at h; cases h
    | cons z r =>
      rw [hk] at h
      have h := Option.some.inj h
      simp only [Prod.mk.injEq] at h
      obtain ⟨rfl, rfl, rfl, rfl⟩ := h
      have hz : z ∈ lackT s l := by rw [hk]; exact List.mem_cons_self
      obtain ⟨z1, z2⟩ := List.mem_filter.mp hz
      obtain ⟨y1, y2⟩ := prods_mem.mp z1
      have vf := vt_fr (h := hdW l) hs v hl
      have vb := vt_bk (h := hdW l) hs v hl
      obtain ⟨q1, hq1, e1⟩ := List.mem_map.mp y1
      obtain ⟨q2, hq2, e2⟩ := List.mem_map.mp y2
      obtain ⟨_, _, _, _, l1⟩ := fr_mem hs hl hq1
      obtain ⟨_, _, _, _, l2⟩ := bk_mem hs hl hq2
      have hz1 : z.1.length = s := by rw [← e1]; exact l1
      refine ⟨fw_len hsh, hz1, by rw [bw_len hsh, hhl], by rw [← e2]; exact l2, xyz_fw hsh hx, by rw [← e1]; exact (vf.wd q1 hq1).1, xyz_bw hsh hx, by rw [← e2]; exact (vb.wd q2 hq2).1, fun y => ?_⟩
      have n1 := num_pos vf y1
      have n2 := num_pos vb y2
      have n0 : num l (z.1 ++ z.2) = 0 := num_not fun q => by
        rw [has_iff.mpr q] at z2
        cases z2
      rw [num_fr hs hl hz1] at n1
      rw [num_bk hs hhl hl] at n2
      rw [n0, Int.mul_zero, Int.zero_sub] at y
      have y' : c ∣ num l (fw s (hdW l) ++ z.2) * num l (z.1 ++ bw s (hdW l)) := (Int.dvd_neg).mp y
      have := ck_cancel hc (not_dvd n2.1 n2.2) y'
      exact not_dvd n1.1 n1.2 (Int.emod_eq_zero_of_dvd this)
end
end Fp

set_option Elab.async false
set_option linter.all false
set_option maxRecDepth 100000
set_option maxHeartbeats 2000000
/-! a tuple told backward: t[::-1] -/
namespace HT
open PySem PySem.Spec PyProof.Rows
section
variable {prog : Program} {w : World} {A : Around} {E : Value → Shared → Prop} {s : Shared}
theorem sliceApplied_neg {sl : Addr} {vl vu vs : Value} {n : Nat} {Q : Int × Int × Nat → Shared → Prop} (hs : s.heap.IsSliceOf sl vl vu vs) (pl : IsPart vl none) (pu : IsPart vu none) (ps : IsPart vs (some (-1)))
    (h : Q ((n : Int) - 1, -1, n) s) : wpAny (model prog w) A (Builtin.Slice.sliceApplied (.ref sl) (pure (n : Int))) Q E s := by
  obtain ⟨os, hos, hcs, hds⟩ := id hs
  unfold Builtin.Slice.sliceApplied Builtin.Slice.sliceFields
  refine wpAny_bind (wpAny_bind (wpAny_field hos hds (x := vl) rfl (wpAny_bind (wpAny_field hos hds (x := vu) rfl (wpAny_bind (wpAny_field hos hds (x := vs) rfl (wpAny_pure ?_)))))))
  refine wpAny_bind (slicePart_ ps ?_)
  show wpAny _ _ (if ((-1 : Int) == 0) = true then _ else _) _ _ s
  rw [if_neg (by decide)]
  refine wpAny_bind (slicePart_ pl (wpAny_bind (slicePart_ pu (wpAny_bind (wpAny_pure ?_)))))
  show wpAny _ _ (pure ((n : Int) - 1, (-1 : Int), Builtin.Slice.slicePlaces ((n : Int) - 1) (-1) (-1))) _ _ s
  have e : Builtin.Slice.slicePlaces ((n : Int) - 1) (-1) (-1) = n := by
    unfold Builtin.Slice.slicePlaces
    have h1 : ¬ ((-1 : Int) > 0) := by omega
    simp only [h1, if_false]
    split
    · rw [show (- (-1 : Int)) = 1 from rfl, Int.ediv_one]
      omega
    · omega
  rw [e]
  exact wpAny_pure h
theorem pick_rev (xs : Array Value) : ((List.range xs.size).filterMap fun (m : Nat) => xs[(((xs.size : Int) - 1) + (m : Int) * (-1)).toNat]?).toArray = xs.toList.reverse.toArray := by
  have e : (fun (m : Nat) => xs[(((xs.size : Int) - 1) + (m : Int) * (-1)).toNat]?) = (fun k => xs[k]?) ∘ fun k => xs.size - 1 - k := by
    funext m
    have : (((xs.size : Int) - 1) + (m : Int) * (-1)).toNat = xs.size - 1 - m := by omega
    show xs[(((xs.size : Int) - 1) + (m : Int) * (-1)).toNat]? = xs[xs.size - 1 - m]?
    rw [this]
  rw [e, ← List.filterMap_map, PySem.W.krv_range, List.filterMap_reverse, PySem.W.krv_all]
theorem getItem_tuple_rev {t sl : Addr} {items : Array Value} {vl vu vs : Value} {Q : Value → Shared → Prop} (ht : IsTup s.heap t items) (hs : s.heap.IsSliceOf sl vl vu vs) (pl : IsPart vl none) (pu : IsPart vu none) (ps : IsPart vs (some (-1)))
    (h : Q (.ref s.heap.objs.size) { s with heap := s.heap.push { cls := .type "tuple", data := .seq items.toList.reverse.toArray } })
    (hsz : items.size ≤ sizeLine) : wpAny (model prog w) A (getItem (.ref t) (.ref sl)) Q E s := by
  have htake : sizeOk (.seq items.toList.reverse.toArray) := by
    show items.toList.reverse.toArray.size ≤ sizeLine
    rw [List.size_toArray, List.length_reverse, Array.length_toList]
    exact hsz
  obtain ⟨os, hos, hcs, hds⟩ := id hs
  have hTs : s.TypeIs (.ref sl) "slice" := ⟨os, hos, hcs⟩
  unfold getItem
  try with_reducible refine wpAny_holding ?_
  first | refine wpAny_bind (wpAny_pure ?_) | skip
  refine wpAny_bind (wpAny_sequenceKey ht.typeIs (by decide) ?_)
  refine wpAny_bind (wpAny_callSpecial?_slot (name := Str.ofString "__getitem__") ht.typeIs PyProof.Rows.slot_tuple_getitem
    (wpAny_call_entry PyProof.Rows.slot_tuple_getitem ht.typeIs entry_tuple_getitem ?_ (args_tuple_getitem _ _)))
  show wpAny _ _ (Builtin.Tuple.tupleItemsOf (.ref t) >>= _) _ _ s
  refine wpAny_bind (tupleItemsOf_ ht ?_)
  refine wpAny_bind (wpAny_typeOf hTs ?_)
  rw [if_pos (by decide)]
  refine wpAny_bind (sliceApplied_neg hs pl pu ps ?_)
  have hno : ¬ ((((items.size : Int) - 1) == 0 && (-1 : Int) == 1 && items.size == items.size) = true) := by
    intro q
    rw [Bool.and_eq_true, Bool.and_eq_true] at q
    exact absurd q.1.2 (by decide)
  show wpAny _ _ (if (((items.size : Int) - 1) == 0 && (-1 : Int) == 1 && items.size == items.size) = true then _ else _) _ _ s
  rw [if_neg hno, pick_rev]
  first
    | exact wpAny_bind (m := Builtin.Tuple.tupleExact _) (wpAny_newObj_type (wpAny_pure ⟨_, rfl, wpAny_pure h⟩) htake)
    | exact wpAny_bind (m := Builtin.Tuple.tupleExact _) (wpAny_newObj_type (wpAny_bind (wpAny_pure (wpAny_pure ⟨_, rfl, wpAny_pure h⟩))) htake)
    | exact wpAny_bind (wpAny_bind (m := Builtin.Tuple.tupleExact _) (wpAny_newObj_type (wpAny_pure (wpAny_pure ⟨_, rfl, wpAny_pure h⟩)) htake))
    | exact wpAny_bind (wpAny_bind (m := Builtin.Tuple.tupleExact _) (wpAny_newObj_type (wpAny_pure ⟨_, rfl, wpAny_pure h⟩) htake))
end
end HT
namespace L2
open PySem PySem.Spec PyProof.Rows HT
section
variable {X : Cx}
def tRevT (K : PySem.W.Frag) (te : TE) : TE := fun σ H Q => te σ H fun x H1 => ∃ a xs, x = .ref a ∧ SqT K H1 a xs ∧ ∀ p, H1 p = none → Q (.ref p) (upd H1 p (.tup xs.reverse))
theorem pe_revT {e : Expr} {te : TE} {k : Nat} {p1 p2 p3 pos : Pos} (he : PE X e te) : PE X (.Subscript e (.Slice none none (some (.UnaryOp .USub (.Constant (.int 1) k p1) p2)) p3) pos) (tRevT X.K te) := by
  refine ⟨fun pins s σ H Q I h => ?_⟩
  refine Subscript_ (thn (he.run pins s σ H _ I h) fun v s1 ⟨x, H1, I1, r1, q1⟩ => ?_)
  obtain ⟨a, xs, ex, hx, q⟩ := q1
  subst ex
  cases r1
  have hst : PO X (some (.UnaryOp .USub (.Constant (.int 1) k p1) p2)) (tPart (tUn (rU fun i => .int (-i)) (tC (.int 1)))) := po_some (pe_un un_neg pe_int)
  refine wpAny_Slice (thn (po_none.run pins s1 σ H1 (fun o H2 => o = none ∧ H2 = H1) I1 ⟨rfl, rfl⟩) fun vl s2 ⟨l, H2, I2, pl, el, e2⟩ => ?_)
  subst el e2
  refine thn (po_none.run pins s2 σ H2 (fun o H3 => o = none ∧ H3 = H2) I2 ⟨rfl, rfl⟩) fun vu s3 ⟨u, H3, I3, pu, eu, e3⟩ => ?_
  subst eu e3
  refine thn (hst.run pins s3 σ H3 (fun o H4 => o = some (-1) ∧ H4 = H3) I3 ⟨1, rfl, -1, rfl, rfl, rfl⟩) fun vs s4 ⟨o, H4, I4, ps, eo, e4⟩ => ?_
  subst eo e4
  have I5 : Inv X pins σ H4 { s4 with heap := s4.heap.push { cls := .type "slice", data := .fields #[vl, vu, vs] } } := I4.kept (t' := s4.toks) fun b ob q => Heap.get?_push_of_some _ q
  obtain ⟨its, r, ht, hz⟩ := I5.tuple hx
  have hlen := r.length
  show wpAny (model X.prog X.w) X.A (subscriptTail e (.Slice none none (some (.UnaryOp .USub (.Constant (.int 1) k p1) p2)) p3) (.ref a) (.ref s4.heap.objs.size)) (EP X pins σ Q) X.xe { s4 with heap := s4.heap.push { cls := .type "slice", data := .fields #[vl, vu, vs] } }
  refine tail_any (ops := [.ref a, .ref s4.heap.objs.size]) ht.typeIs (PyProof.Rows.slot_tuple_getitem.lookup) ?_ (by with_unfolding_all rfl)
  refine getItem_tuple_rev ht (Heap.IsSliceOf.new _ vl vu vs) pl pu ps ?_ (by rw [List.size_toArray]; omega)
  refine ⟨.ref _, _, I5.laid (t' := s4.toks) (o := .tup xs.reverse) (fun b ob q => Heap.get?_push_of_some _ q) (Nat.le_refl _) ?_, rfl, q _ (I5.hok.fresh (Nat.le_refl _))⟩
  exact ⟨by rw [List.length_reverse]; exact hz, _, r.reverse, IsTup.new _ _⟩
end
end L2

set_option Elab.async false
set_option linter.all false
set_option maxRecDepth 100000
set_option maxHeartbeats 2000000
/-! a text told backward: s[::-1] -/
namespace L2
open PySem PySem.Spec PyProof.Rows
def revS (z : Str) : Str := ⟨z.cps.toList.reverse.toArray⟩
theorem revS_len (z : Str) : (revS z).length = z.length := by
  show (z.cps.toList.reverse.toArray).size = z.cps.size
  simp
theorem rev_ix (z : Str) : ((Builtin.Str.strSliceIndices none none (-1) z.length).filterMap (z.cps[·]?)).toArray = (revS z).cps := by
  show ((sliceRange ((z.cps.size : Int) - 1) (-1) (-1)).filterMap (z.cps[·]?)).toArray = _
  rw [PySem.W.krv_sliceRange, PySem.W.krv_range, List.filterMap_reverse, PySem.W.krv_all]
  rfl
def tRevS (te : TE) : TE := fun σ H Q => te σ H fun x H1 => ∃ z, x = .str z ∧ z.length ≤ sizeLine ∧ Q (.str (revS z)) H1
theorem pe_revS {X : Cx} {e : Expr} {te : TE} {k : Nat} {p1 p2 p3 pos : Pos} (he : PE X e te) : PE X (.Subscript e (.Slice none none (some (.UnaryOp .USub (.Constant (.int 1) k p1) p2)) p3) pos) (tRevS te) := by
  refine ⟨fun pins s σ H Q I h => ?_⟩
  refine Subscript_ (thn (he.run pins s σ H _ I h) fun v s1 ⟨x, H1, I1, r1, q1⟩ => ?_)
  obtain ⟨z, ex, hz, q⟩ := q1
  subst ex
  obtain ⟨t, rfl⟩ := r1
  have hst : PO X (some (.UnaryOp .USub (.Constant (.int 1) k p1) p2)) (tPart (tUn (rU fun i => .int (-i)) (tC (.int 1)))) := po_some (pe_un un_neg pe_int)
  refine wpAny_Slice (thn (po_none.run pins s1 σ H1 (fun o H2 => o = none ∧ H2 = H1) I1 ⟨rfl, rfl⟩) fun vl s2 ⟨l, H2, I2, pl, el, e2⟩ => ?_)
  subst el e2
  refine thn (po_none.run pins s2 σ H2 (fun o H3 => o = none ∧ H3 = H2) I2 ⟨rfl, rfl⟩) fun vu s3 ⟨u, H3, I3, pu, eu, e3⟩ => ?_
  subst eu e3
  refine thn (hst.run pins s3 σ H3 (fun o H4 => o = some (-1) ∧ H4 = H3) I3 ⟨1, rfl, -1, rfl, rfl, rfl⟩) fun vs s4 ⟨o, H4, I4, ps, eo, e4⟩ => ?_
  subst eo e4
  have I5 : Inv X pins σ H4 { s4 with heap := s4.heap.push { cls := .type "slice", data := .fields #[vl, vu, vs] } } := I4.kept (t' := s4.toks) fun b ob q => Heap.get?_push_of_some _ q
  obtain ⟨l, rfl, hl⟩ := IsPart.raw pl
  obtain ⟨u, rfl, hu⟩ := IsPart.raw pu
  obtain ⟨st, rfl, hst'⟩ := IsPart.raw ps
  show wpAny (model X.prog X.w) X.A (subscriptTail e (.Slice none none (some (.UnaryOp .USub (.Constant (.int 1) k p1) p2)) p3) (.str z t) (.ref s4.heap.objs.size)) (EP X pins σ Q) X.xe { s4 with heap := s4.heap.push { cls := .type "slice", data := .fields #[partValue l, partValue u, partValue st] } }
  refine tail_any (ops := [.str z t, .ref s4.heap.objs.size]) (typeIs_str _ z t) (F.slot_str_getitem.lookup) ?_ (by with_unfolding_all rfl)
  refine wpAny_getItem_str_slice (l := l) (u := u) (st := st) ⟨_, Heap.get?_push_size _ rfl, rfl, rfl⟩ (by rw [hst'] <;> rfl) ?_
  have e1 : (st.map (·.1)).getD 1 = -1 := by rw [hst'] <;> rfl
  show Made.post (if (((st.map (·.1)).getD 1) == 1 && (Builtin.Str.strSliceIndices (l.map (·.1)) (u.map (·.1)) ((st.map (·.1)).getD 1) z.length).length == z.length) = true then Made.val (.str z t)
    else Made.str ⟨((Builtin.Str.strSliceIndices (l.map (·.1)) (u.map (·.1)) ((st.map (·.1)).getD 1) z.length).filterMap (z.cps[·]?)).toArray⟩) (EP X pins σ Q) _
  rw [e1, hl, hu, if_neg (by simp), rev_ix]
  refine ⟨?_, .str _, H4, I5.tok _, ⟨_, rfl⟩, q⟩
  show (revS z).length ≤ sizeLine
  rw [revS_len]
  exact hz
end L2

set_option Elab.async false
set_option linter.all false
set_option maxRecDepth 100000
set_option maxHeartbeats 2000000
/-! y = {k: v for ..}, y a name of the def -/
namespace L2
open PySem PySem.Spec PyProof.Rows
section
variable {X : Cx}
theorem sw_dict {ke ve : Expr} {cs : List Comprehension} {sco : Scope} {q qy : Pos} {nm : Str} {ln : Nat} {en : Env} (h1 : en.scope.kind = .function) (h2 : en.scope.names.lookup nm = some .local) (h3 : (qy.line == q.line) = true)
    (h4 : (sco.names.any fun (a, b) => a == nm && (b == .local || b == .cell)) = false) : swapsWith (.DictComp ke ve cs sco q) (some (.Name nm qy)) ln en = pure true := by
  have f1 : en.kindOf nm = some .local := h2
  have f2 : en.blockKind = .function := by unfold Env.blockKind; rw [h1] <;> rfl
  unfold swapsWith
  simp only [f1, f2, h4, h3, Expr.pos]
  rfl
theorem ps_setDc {j : Nat} {nm : Str} {qy : Pos} {ke ve tgt itr : Expr} {conds : List Expr} {sco : Scope} {mine : List (Str × Nat)} {q sq : Pos} {ti : TI} {tg : TG} {tc : TT} {t1 t2 : TE} (calm : X.calm = true) (nN : X.N.Nodup) (at_ : X.N[j]? = some nm) (loc : X.env.scope.names.lookup nm = some .local)
    (sw : swapsWith (.DictComp ke ve [⟨tgt, itr, conds, 0⟩] sco q) (some (.Name nm qy)) sq.line X.env = pure true) (pi : PI X tgt itr ti) (bo : BlkOk X.N X.env.scope sco mine)
    (g1 : ∀ (s : Shared) (H : Hp) (C : Addr) (cl : List (Str × Addr)) (fp : List Addr), PG (X.blk s H sco (compEnvC sco cl C X.env) fp) tgt tg) (g2 : ∀ (s : Shared) (H : Hp) (C : Addr) (cl : List (Str × Addr)) (fp : List Addr), PTs (X.blk s H sco (compEnvC sco cl C X.env) fp) conds tc)
    (g3 : ∀ (s : Shared) (H : Hp) (C : Addr) (cl : List (Str × Addr)) (fp : List Addr), PE (X.blk s H sco (compEnvC sco cl C X.env) fp) ke t1) (g4 : ∀ (s : Shared) (H : Hp) (C : Addr) (cl : List (Str × Addr)) (fp : List Addr), PE (X.blk s H sco (compEnvC sco cl C X.env) fp) ve t2)
    (fo : ∀ y, foldedSetIterable itr X.env y = pure y := by intro _; rfl) :
    PS X (.Assign [.Name nm qy] (.DictComp ke ve [⟨tgt, itr, conds, 0⟩] sco q) sq) (tAsg (tDc ti tg tc t1 t2 (mine.map (·.2))) (gName j)) := by
  constructor
  intro pn st sl hp ends inv rd
  rw [exec_Assign_Name_used _ _ _ _ sw]
  refine wpAny_bind (wpAny_standAt ?_)
  refine wpAny_bind ?_
  show wpAny _ X.A (do let _ ← comprehension (.DictComp ke ve [⟨tgt, itr, conds, 0⟩] sco q) sco X.env (firstIterPos [⟨tgt, itr, conds, 0⟩] q) newDict false (eval itr X.env) (some (assign (.Name nm qy) X.env))) _ _ st
  have rd' : tDc ti tg tc t1 t2 (mine.map (·.2)) sl hp (fun x H1 => gName j x sl H1 ends.nx) := rd
  refine wpAny_bind (thn (dc_core (Qf := fun _ st' => SP X pn ends .next st') calm nN inv pi bo g1 g2 g3 g4 fo rd' fun D C st1 mm hp1 inv1 q1 ns fr => ?_) fun _ st' hq => ?_)
  · show wpAny _ _ (assign (.Name nm qy) X.env (.ref D)) _ _ _
    refine wpAny_assign_Name (store_ok2 (v := V.ref D) inv1 nN at_ (.inl loc) rfl (fun st2 inv2 ⟨b, sb, hb⟩ => ?_) (.inr loc))
    obtain ⟨a0, a1, a2, a3, a4, a5⟩ := fr
    have cb : C ≠ b := by
      rcases hb with z | z
      · rw [z]
        exact a1
      · exact fun e => a4 nm b z e.symm
    refine ⟨mm, ns.sameBut sb cb, fun h3 sb3 => ⟨_, hp1, inv2.turned (t' := st2.toks) (fun b o nb e => (sb3.2 b nb).trans e) a0 a1 a3 a4 a5, q1⟩⟩
  · exact wpAny_pure (wpAny_pure hq)
end
end L2

set_option Elab.async false
set_option linter.all false
set_option maxRecDepth 100000
set_option maxHeartbeats 4000000
namespace Fp
open PySem PySem.Spec PyProof.Rows L2
/-! ### odd things -/
def xyzB (s : Str) : Bool := s.cps.toList.all fun c => c == 120 || c == 121 || c == 122
theorem xyzB_iff {s : Str} : xyzB s = true ↔ xyz s := by
  unfold xyzB xyz
  rw [List.all_eq_true]
  simp only [Bool.or_eq_true, beq_iff_eq, or_assoc]
def isWB : V → Bool
  | .str s => xyzB s
  | _ => false
def OddS (s : Str) : Prop := (xyz s ∧ s.length ≤ 1000) ∨ s = "w" ∨ s = "X"
def OddV (H : Hp) (x : V) : Prop := (∃ s, x = .str s ∧ OddS s) ∨ x = .non ∨ (∃ b, x = .bl b) ∨ (∃ i, x = .int i) ∨ ∃ a xs, x = .ref a ∧ (H a = some (.tup xs) ∨ H a = some (.lst xs))
theorem OddS.len {s : Str} (h : OddS s) : s.length ≤ 1000 := by
  rcases h with h | rfl | rfl
  · exact h.2
  · exact Nat.le_of_ble_eq_true rfl
  · exact Nat.le_of_ble_eq_true rfl
theorem OddV.but {H H' : Hp} {x : V} (v : OddV H x) (k : ∀ a xs, (H a = some (.tup xs) → H' a = some (.tup xs)) ∧ (H a = some (.lst xs) → x = .ref a → H' a = some (.lst xs))) : OddV H' x := by
  rcases v with v | v | v | v | ⟨a, xs, rfl, h | h⟩
  · exact .inl v
  · exact .inr (.inl v)
  · exact .inr (.inr (.inl v))
  · exact .inr (.inr (.inr (.inl v)))
  · exact .inr (.inr (.inr (.inr ⟨a, xs, rfl, .inl ((k a xs).1 h)⟩)))
  · exact .inr (.inr (.inr (.inr ⟨a, xs, rfl, .inr ((k a xs).2 h rfl)⟩)))
theorem OddV.same {H H' : Hp} {x : V} (v : OddV H x) (k : Same H H') : OddV H' x := v.but fun a xs => ⟨fun e => k _ _ e, fun e _ => k _ _ e⟩
theorem OddV.isS {K : PySem.W.Frag} {H : Hp} {x : V} (v : OddV H x) : ∃ t b, TyX K H x t ∧ PySem.W.kitOne K t (.type "str") = some b ∧ ((b = true ∧ ∃ s, x = .str s ∧ OddS s) ∨ (b = false ∧ isWB x = false)) := by
  rcases v with ⟨s, rfl, h⟩ | rfl | ⟨b, rfl⟩ | ⟨i, rfl⟩ | ⟨a, xs, rfl, h | h⟩
  · exact ⟨_, _, .base (.str s), kit_ty (r := true) (by decide +kernel), .inl ⟨rfl, s, rfl, h⟩⟩
  · exact ⟨_, _, .base .non, kit_ty (r := false) (by decide +kernel), .inr ⟨rfl, rfl⟩⟩
  · exact ⟨_, _, .base (.bl b), kit_ty (r := false) (by decide +kernel), .inr ⟨rfl, rfl⟩⟩
  · exact ⟨_, _, .base (.int i), kit_ty (r := false) (by decide +kernel), .inr ⟨rfl, rfl⟩⟩
  · exact ⟨_, _, .base (.tup h), kit_ty (r := false) (by decide +kernel), .inr ⟨rfl, rfl⟩⟩
  · exact ⟨_, _, .base (.lst h), kit_ty (r := false) (by decide +kernel), .inr ⟨rfl, rfl⟩⟩
theorem strip_odd {s : Str} (h : OddS s) : decide (V.str (PySem.Txt.stripChars s "xyz") = V.str "") = xyzB s := by
  rcases h with h | rfl | rfl
  · rw [strip_xyz h.1, xyzB_iff.mpr h.1]
    exact decide_eq_true rfl
  · have e1 : PySem.Txt.stripChars "w" "xyz" = "w" := by decide +kernel
    have e2 : xyzB "w" = false := by decide +kernel
    rw [e1, e2]
    exact decide_eq_false (by intro z; injection z with z; revert z; decide +kernel)
  · have e1 : PySem.Txt.stripChars "X" "xyz" = "X" := by decide +kernel
    have e2 : xyzB "X" = false := by decide +kernel
    rw [e1, e2]
    exact decide_eq_false (by intro z; injection z with z; revert z; decide +kernel)
section
variable {P : Program} {w : World} {K : PySem.W.Frag} {mg : Str → Option Value} {base : Heap}
abbrev rLen1 : List V → Hp → VK → Prop := fun xs H Q => ∃ z, xs = [.str z] ∧ z.length ≤ sizeLine ∧ Q (.int z.length) H
def spIsWord : Sp := fun vs H Q _ => ∃ x : V, vs = [x] ∧ OddV H x ∧ Q (.bl (isWB x)) H
theorem ok_isWord (T : Top K mg) : Ok P w K mg base 1 "is_word" ["thing"] spIsWord := by
  obtain ⟨fd, F⟩ := fn_is_word T
  obtain ⟨tk, hL⟩ := t_LETTERS T
  refine ⟨⟨fd, ?_, F.bindsN fun _ _ _ _ _ _ us hl => match us, hl with | [_], _ => rfl⟩, g_is_word T, F.kp⟩
  refine F.ok sc_is_word (fun vs H Q E h => ?_) (fun cdv A outer s H vs Q E hr h => ?_)
  · obtain ⟨i, rfl, _⟩ := h
    rfl
  · obtain ⟨x, rfl, hx, q⟩ := h
    have hs : sizeLine = 16777216 := sizeLine_eq
    obtain ⟨t, b, h1, h2, h3⟩ := hx.isS (K := K)
    refine ⟨_, PSs.nox (pss_one (ps_ret (pe_and (pe_callB call_isi (by rfl) (f_isinstance T) (by decide +kernel) (pa_cons (pv 0) (pa_cons (pe_bltn (v := .ty "str") (by rfl) (f_str T) (by decide +kernel) rfl) pa_nil)))
      (pe_one (pe_cmpR op_eq (pe_m1 PySem.F.slot_str_strip PySem.F.type_str_strip mt_stripChars (pv 0) (pe_glob (v := .str "xyz") rfl hL ⟨_, rfl⟩)) pe_str (nomark _)))))), ?_⟩
    refine ⟨_, rfl, x, _, t, _, b, rfl, .ty "str", h1, h2, b, rfl, ?_⟩
    rcases h3 with ⟨rfl, s', rfl, hs'⟩ | ⟨rfl, e⟩
    · refine iteT ?_
      have hl := hs'.len
      refine ⟨_, rfl, ⟨s', rfl⟩, s', _, rfl, rfl, by omega, rfl, ?_⟩
      rw [strip_odd hs']
      exact q
    · rw [e] at q
      exact iteF q
/-! ### the first word -/
def lenL : Tb → Int
  | [] => -1
  | p :: _ => p.1.length
def spLen (K : PySem.W.Frag) : Sp := fun vs H Q _ => ∃ (a : Addr) (c : Int) (L : Tb), vs = [.ref a] ∧ BagAt K H a c L ∧ (∀ p ∈ L, p.1.length ≤ 1000000) ∧ Q (.int (lenL L)) H
theorem sc_length : FnScope ["bag"] ["bag"] (defScope s_length) := ⟨rfl, rfl, rfl, by decide +kernel, rfl, by decide +kernel, by decide +kernel⟩
theorem ok_length (T : Top K mg) : Ok P w K mg base 1 "length" ["bag"] (spLen K) := by
  obtain ⟨fd, F⟩ := fn_length T
  refine ⟨⟨fd, ?_, F.bindsN fun _ _ _ _ _ _ us hl => match us, hl with | [_], _ => rfl⟩, g_length T, F.kp⟩
  refine F.ok sc_length (fun vs H Q E h => ?_) (fun cdv A outer s H vs Q E hr h => ?_)
  · obtain ⟨a, c, L, rfl, _⟩ := h
    rfl
  · obtain ⟨a, c, L, rfl, ⟨dx, t, ea, wt⟩, hw, q⟩ := h
    have hs : sizeLine = 16777216 := sizeLine_eq
    obtain ⟨ps, o, e1, e2, e3⟩ := WordsAt.get wt
    refine ⟨_, PSs.nox (pss_cons (ps_if (pt_not (pt_truth (pe_fld (pv 0) rfl) (fun _ => rfl))) (pss_one (ps_ret (pe_un un_neg pe_int))) pss_nil)
      (pss_one (ps_ret (pe_callB call_len_str (by rfl) (f_len T) PySem.boot_len (pa_cons (pe_ix ix_tup (pe_ix ix_tup (pe_fld (pv 0) rfl) pe_int (fun _ _ => rfl)) pe_int (fun _ _ => rfl)) pa_nil))))), ?_⟩
    refine ⟨_, rfl, a, _, dx, _, _, rfl, ea, cls_Bag T, na_Bag_words T, flds_words _ _, ?_⟩
    refine ⟨_, .inr (.inl ⟨_, .inl (.inr ⟨o, e1⟩), rfl⟩), ?_⟩
    cases L with
    | nil =>
      have : ps = [] := List.eq_nil_of_length_eq_zero e2
      subst this
      refine ite2 (fun _ => ?_) (fun z => absurd rfl z)
      exact ⟨_, rfl, q⟩
    | cons p r =>
      obtain ⟨p0, h1, h2⟩ := e3 0 p rfl
      cases ps with
      | nil => simp at h1
      | cons p1 ps =>
        have : p1 = p0 := Option.some.inj h1
        subst this
        refine ite2 (fun z => absurd z (by simp)) (fun _ => ?_)
        refine ⟨_, rfl, a, _, dx, _, _, rfl, ea, cls_Bag T, na_Bag_words T, flds_words _ _, ?_⟩
        refine ⟨t, _, 0, _, rfl, rfl, .inl (.inr ⟨o, e1⟩), atI_nat (j := 0) (xs := (p1 :: ps).map V.ref) rfl, p1, _, 0, _, rfl, rfl, .inl (.inl h2), rfl, _, rfl, ?_, q⟩
        have := hw p List.mem_cons_self
        omega
def spNumberAt (K : PySem.W.Frag) : Sp := fun vs H Q _ => ∃ (a : Addr) (x : Str) (c : Int) (l : Tb), vs = [.ref a, .str x] ∧ BagAt K H a c (canon l) ∧ Nd l ∧ xyz x ∧ x.length ≤ 1000000 ∧ ∀ H', Same H H' → Q (.int (num l x)) H'
def spCkLev (K : PySem.W.Frag) : Sp := fun vs H Q _ => ∃ (a : Addr) (c : Int) (L : Tb) (n : Nat), vs = [.ref a] ∧ BagAt K H a c L ∧ L ≠ [] ∧ Lev n L ∧ n ≤ 1000 ∧ L.length ≤ 1000000 ∧ ∀ H', Same H H' → Q .non H'
abbrev nCkLev : List Str := ["bag", "word", "_"]
theorem sc_ckLev : FnScope nCkLev ["bag"] (defScope s_check_level) := ⟨rfl, rfl, rfl, by decide +kernel, rfl, by decide +kernel, by decide +kernel⟩
theorem lev_lenL {n : Nat} {L : Tb} (h : Lev n L) (hne : L ≠ []) : lenL L = n := by
  cases L with
  | nil => exact absurd rfl hne
  | cons p r =>
    show ((p.1.length : Nat) : Int) = n
    rw [h p List.mem_cons_self]
theorem ok_ckLev (T : Top K mg) : Ok P w K mg base 2 "check_level" ["bag"] (spCkLev K) := by
  obtain ⟨fd, F⟩ := fn_check_level T
  refine ⟨⟨fd, ?_, F.bindsN fun _ _ _ _ _ _ us hl => match us, hl with | [_], _ => rfl⟩, g_check_level T, F.kp⟩
  refine F.ok sc_ckLev (fun vs H Q E h => ?_) (fun cdv A outer s H vs Q E hr h => ?_)
  · obtain ⟨a, c, L, n, rfl, _⟩ := h
    rfl
  · obtain ⟨a, c, L, n, rfl, hb, hne, hl, hn, hll, q⟩ := h
    obtain ⟨dx, t, ea, wt⟩ := id hb
    have nd := sc_ckLev.nd
    have hs : sizeLine = 16777216 := sizeLine_eq
    obtain ⟨ps, o, e1, e2, e3⟩ := WordsAt.get wt
    refine ⟨_, PSs.nox (pss_one (ps_if (PW.pt (pw_or (pt_not (pt_truth (pe_fld (pv 0) rfl) (fun _ => rfl)))
      (pw_or1 (pt_val (pe_callB (cr_any rfl) (by rfl) (f_any T) (by decide +kernel) (pa_cons (pe_lc (te := tOp rNe (tCB rLen1 (tCons (tVar 1) tNil)) (tCall (spLen K) [] E0 (tCons (tVar 0) tNil))) (own := [("word", 1), ("_", 2)]) (g := gPair K 1 2) (tt := tYes) rfl nd (pi_tup (pe_fld (pv 0) rfl)) (blkOk_by (N := nCkLev) (sc := defScope s_check_level) (by decide +kernel))
        (fun _ _ _ _ _ => pg_tup rfl (pgs_cons (pg_name (i := 1) nd rfl (Or.inl rfl)) (pgs_cons (pg_name (i := 2) nd rfl (Or.inl rfl)) pgs_nil)))
        (fun _ _ _ _ _ => by exact pts_nil) (fun _ _ _ _ _ => by exact (pe_cmpR op_ne (pe_callB call_len_str (by rfl) (f_len T) PySem.boot_len (pa_cons (pv 1) pa_nil)) (pc (ok_length T) hr (pa_cons (pv 0) pa_nil)) (nomark _)))) pa_nil)))))) (pss_one ps_never) pss_nil)), ?_⟩
    refine ⟨_, rfl, a, _, dx, _, _, rfl, ea, cls_Bag T, na_Bag_words T, flds_words _ _, ?_⟩
    refine ⟨_, .inr (.inl ⟨_, .inl (.inr ⟨o, e1⟩), rfl⟩), ?_⟩
    refine ite2 (fun z => ?_) (fun _ => ?_)
    · exfalso
      cases L with
      | nil => exact hne rfl
      | cons p r =>
        cases ps with
        | nil => simp at e2
        | cons p1 ps => simp at z
    refine ⟨_, rfl, a, _, dx, _, _, rfl, ea, cls_Bag T, na_Bag_words T, flds_words _ _, ?_⟩
    refine ⟨t, rfl, ⟨_, .inl (.inr ⟨o, e1⟩)⟩, fun D hD => ?_⟩
    refine lc_it (walk_tup (xs := ps.map V.ref)) (fun i H' => H' D = some (.lst ((List.replicate i false).map V.bl)) ∧ Same H H') ⟨upd_same, same_upd hD⟩ (fun i H' _ hP => .inl (.inr ⟨o, hP.2 _ _ e1⟩)) ?_ ?_
    · rintro i x H1 H2 hi ⟨p1, p2⟩ ⟨rfl, e⟩
      rw [List.length_map, e2] at hi
      have ep : L[i]? = some L[i] := List.getElem?_eq_getElem hi
      generalize L[i] = p at ep
      obtain ⟨b, h1, h2⟩ := e3 i p ep
      rw [List.getElem?_map, h1] at e
      have e5 : V.ref b = x := Option.some.inj e
      subst e5
      have hpn := hl p (List.mem_of_getElem? ep)
      refine ⟨b, _, rfl, .inl (.inl (p2 _ _ h2)), rfl, ?_⟩
      refine ⟨_, _, rfl, _, _, rfl, rfl, rfl, ?_⟩
      refine ⟨_, rfl, p.1, rfl, by omega, _, rfl, a, c, L, rfl, hb.same p2, fun q hq => by rw [hl q hq]; omega, rfl, ?_⟩
      rw [lev_lenL hl hne, hpn, decide_eq_true (rfl : V.int (n : Int) = V.int (n : Int))]
      refine ⟨_, p1, ?_, ?_, fun b' o' y => ?_⟩
      · rw [List.length_map, List.length_replicate]
        omega
      · rw [upd_same, List.replicate_succ', List.map_append]
        rfl
      · rw [upd_ne (ne_of_none y hD)]
        exact p2 _ _ y
    · rintro H' ⟨p1, p2⟩
      refine ⟨D, List.replicate _ false, rfl, .inl (.inl p1), _, rfl, ?_⟩
      rw [show (List.replicate (ps.map V.ref).length false).any id = false by simp]
      exact iteF (q H' p2)
def spCkNum (K : PySem.W.Frag) : Sp := fun vs H Q _ => ∃ (a : Addr) (c : Int) (L : Tb) (n s : Nat), vs = [.ref a, .int s] ∧ BagAt K H a c L ∧ L ≠ [] ∧ Lev n L ∧ n ≤ 1000 ∧ s ≤ n ∧ Q .non H
end
end Fp

set_option Elab.async false
set_option linter.all false
set_option maxRecDepth 100000
set_option maxHeartbeats 4000000
/-! {k: v for a in xs for b in ys} -/
namespace L2
open PySem PySem.Spec PyProof.Rows
theorem dTurn2_out (kx vx t0 i0 t1 i1 : Expr) (ifs0 ifs1 : List Expr) (scope : Scope) (pos : Pos) (it acc : Value) (env : Env) :
    compTurn (.DictComp kx vx [⟨t0, i0, ifs0, 0⟩, ⟨t1, i1, ifs1, 0⟩] scope pos) 0 it acc env = (do
      standAt i0.pos
      let __do_lift ← pyNext it
      match __do_lift with
      | none => pure (Fin.done Flow.next)
      | some v => do
        letOwnedTupleGo t0 it v
        assign t0 env v
        have ok : Bool := true
        let __s ← forIn ifs0 ok fun c __s =>
          have ok := __s
          if ok = true then do
            let ok ← PySem.isTrue c env (eval c env)
            pure (ForInStep.yield ok)
          else pure (ForInStep.yield ok)
        have ok : Bool := __s
        have __do_jp : Unit → Sem PySem.Fin := fun __r => again (Code.compLoop (.DictComp kx vx [⟨t0, i0, ifs0, 0⟩, ⟨t1, i1, ifs1, 0⟩] scope pos) 0 it acc env)
        if ok = true then do
          let x ← eval i1 env
          standAt i1.pos
          let x ← foldedSetIterable i1 env x
          let __do_lift ← holding [x] (pyIter x)
          let _ ← runOwn (Code.compStart (.DictComp kx vx [⟨t0, i0, ifs0, 0⟩, ⟨t1, i1, ifs1, 0⟩] scope pos) 1 __do_lift acc env) env
          __do_jp ()
        else __do_jp ()) := rfl
theorem dTurn2_in (kx vx t0 i0 t1 i1 : Expr) (ifs0 ifs1 : List Expr) (scope : Scope) (pos : Pos) (it : Value) (D : Addr) (env : Env) :
    compTurn (.DictComp kx vx [⟨t0, i0, ifs0, 0⟩, ⟨t1, i1, ifs1, 0⟩] scope pos) 1 it (.ref D) env = (do
      standAt i1.pos
      let __do_lift ← pyNext it
      match __do_lift with
      | none => pure (Fin.done Flow.next)
      | some v => do
        letOwnedTupleGo t1 it v
        assign t1 env v
        have ok : Bool := true
        let __s ← forIn ifs1 ok fun c __s =>
          have ok := __s
          if ok = true then do
            let ok ← PySem.isTrue c env (eval c env)
            pure (ForInStep.yield ok)
          else pure (ForInStep.yield ok)
        have ok : Bool := __s
        have __do_jp : Unit → Sem PySem.Fin := fun __r => again (Code.compLoop (.DictComp kx vx [⟨t0, i0, ifs0, 0⟩, ⟨t1, i1, ifs1, 0⟩] scope pos) 1 it (.ref D) env)
        if ok = true then do
          (do
            let kv ← eval kx env
            let vv ← holding [kv] (eval vx env)
            standAt { kx.pos with endLine := vx.pos.endLine, endCol := vx.pos.endCol }
            holding [kv, vv] (dictSet D kv vv)) >>= fun __r => __do_jp __r
        else __do_jp ()) := rfl
section
variable {prog : Program} {w : World} {A : Around} {R : Result → Shared → Prop} {s : Shared} {kx vx t0 i0 t1 i1 : Expr} {ifs0 ifs1 : List Expr} {scope : Scope} {pos : Pos} {it : Value} {env : Env}
theorem dLoop2_out {acc : Value} (hs : ∀ x : Value, foldedSetIterable i1 env x = pure x) (I : Nat → Shared → Prop)
    (turn : ∀ (n : Nat) (s : Shared), I n s → wpAny (model prog w) A (pyNext it)
      (fun r s1 => match r with
        | none => R (.ok .next) s1
        | some v => wpAny (model prog w) A (letOwnedTupleGo t0 it v)
          (fun x s1' => wpAny (model prog w) A (assign t0 env v)
            (fun x s2 => wpAny (model prog w) A
              (forIn ifs0 true fun c r => if r = true then do
                  let ok ← PySem.isTrue c env (eval c env)
                  pure (ForInStep.yield ok)
                else pure (ForInStep.yield r))
              (fun ok s3 => if ok = true then
                  wpAny (model prog w) A (eval i1 env)
                    (fun x s4 => wpAny (model prog w) A (pyIter x)
                      (fun it1 s5 => codeAny (model prog w) A (Code.compStart (.DictComp kx vx [⟨t0, i0, ifs0, 0⟩, ⟨t1, i1, ifs1, 0⟩] scope pos) 1 it1 acc env)
                        (fun r s' => match r with
                          | .ok a => ∃ m, m < n ∧ I m s'
                          | .error a => False) s5)
                      (notedBy (model prog w) A env fun e s' => R (.error e) s') s4)
                    (notedBy (model prog w) A env fun e s' => R (.error e) s') s3
                else ∃ m, m < n ∧ I m s3)
              (notedBy (model prog w) A env fun e s' => R (.error e) s') s2)
            (notedBy (model prog w) A env fun e s' => R (.error e) s') s1')
          (notedBy (model prog w) A env fun e s' => R (.error e) s') s1)
      (notedBy (model prog w) A env fun e s' => R (.error e) s') s) (n : Nat) (h : I n s) :
    codeAny (model prog w) A (Code.compLoop (.DictComp kx vx [⟨t0, i0, ifs0, 0⟩, ⟨t1, i1, ifs1, 0⟩] scope pos) 0 it acc env) R s := by
  refine codeAny_loop rfl I (fun n s hI => ?_) n h
  refine wpAny_noted ?_
  rw [dTurn2_out]
  refine wpAny_bind (wpAny_standAt (wpAny_bind (wpAny_mono (turn n s hI) (fun r s1 h1 => ?_) (fun _ _ h' => h'))))
  cases r with
  | none => exact wpAny_pure h1
  | some v =>
    refine wpAny_bind (wpAny_mono h1 (fun x s1' h1' => ?_) (fun _ _ h' => h'))
    refine wpAny_bind (wpAny_mono h1' (fun x s2 h2 => ?_) (fun _ _ h' => h'))
    refine wpAny_bind (wpAny_mono h2 (fun ok s3 h3 => ?_) (fun _ _ h' => h'))
    cases ok with
    | false => exact wpAny_pure ⟨rfl, h3⟩
    | true =>
      refine wpAny_bind (wpAny_mono h3 (fun x s4 h4 => ?_) (fun _ _ h' => h'))
      refine wpAny_bind (wpAny_standAt (wpAny_bind (wpAny_of_eq (hs x) (wpAny_bind (wpAny_holding (wpAny_mono h4 (fun it1 s5 h5 => ?_) (fun _ _ h' => h')))))))
      refine wpAny_bind (wpAny_runOwn ?_ (fun x => by cases x))
      rw [Around.mark_none]
      refine codeAny_mono h5 fun r s' hr => ?_
      cases r with
      | error e => exact False.elim hr
      | ok f => exact wpAny_pure ⟨rfl, hr⟩
theorem dLoop2_in {D : Addr} (I : Nat → Shared → Prop)
    (turn : ∀ (n : Nat) (s : Shared), I n s → wpAny (model prog w) A (pyNext it)
      (fun r s1 => match r with
        | none => R (.ok .next) s1
        | some v => wpAny (model prog w) A (letOwnedTupleGo t1 it v)
          (fun x s1' => wpAny (model prog w) A (assign t1 env v)
            (fun x s2 => wpAny (model prog w) A
              (forIn ifs1 true fun c r => if r = true then do
                  let ok ← PySem.isTrue c env (eval c env)
                  pure (ForInStep.yield ok)
                else pure (ForInStep.yield r))
              (fun ok s3 => if ok = true then
                  wpAny (model prog w) A (eval kx env)
                    (fun kv s4 => wpAny (model prog w) A (eval vx env)
                      (fun vv s5 => wpAny (model prog w) A (dictSet D kv vv) (fun x s6 => ∃ m, m < n ∧ I m s6) (notedBy (model prog w) A env fun e s' => R (.error e) s') s5)
                      (notedBy (model prog w) A env fun e s' => R (.error e) s') s4)
                    (notedBy (model prog w) A env fun e s' => R (.error e) s') s3
                else ∃ m, m < n ∧ I m s3)
              (notedBy (model prog w) A env fun e s' => R (.error e) s') s2)
            (notedBy (model prog w) A env fun e s' => R (.error e) s') s1')
          (notedBy (model prog w) A env fun e s' => R (.error e) s') s1)
      (notedBy (model prog w) A env fun e s' => R (.error e) s') s) (n : Nat) (h : I n s) :
    codeAny (model prog w) A (Code.compLoop (.DictComp kx vx [⟨t0, i0, ifs0, 0⟩, ⟨t1, i1, ifs1, 0⟩] scope pos) 1 it (.ref D) env) R s := by
  refine codeAny_loop rfl I (fun n s hI => ?_) n h
  refine wpAny_noted ?_
  rw [dTurn2_in]
  refine wpAny_bind (wpAny_standAt (wpAny_bind (wpAny_mono (turn n s hI) (fun r s1 h1 => ?_) (fun _ _ h' => h'))))
  cases r with
  | none => exact wpAny_pure h1
  | some v =>
    refine wpAny_bind (wpAny_mono h1 (fun x s1' h1' => ?_) (fun _ _ h' => h'))
    refine wpAny_bind (wpAny_mono h1' (fun x s2 h2 => ?_) (fun _ _ h' => h'))
    refine wpAny_bind (wpAny_mono h2 (fun ok s3 h3 => ?_) (fun _ _ h' => h'))
    cases ok with
    | false => exact wpAny_pure ⟨rfl, h3⟩
    | true =>
      refine wpAny_bind (wpAny_bind (wpAny_mono h3 (fun kv s4 h4 => ?_) (fun _ _ h' => h')))
      refine wpAny_bind (wpAny_holding (wpAny_mono h4 (fun vv s5 h5 => ?_) (fun _ _ h' => h')))
      exact wpAny_bind (wpAny_standAt (wpAny_holding (wpAny_mono h5 (fun x s6 h6 => wpAny_pure ⟨rfl, h6⟩) (fun _ _ h' => h'))))
theorem dStart1_ok {acc : Value} (h0 : codeAny (model prog w) A (Code.compLoop (.DictComp kx vx [⟨t0, i0, ifs0, 0⟩, ⟨t1, i1, ifs1, 0⟩] scope pos) 1 it acc env) R s)
    (h : wpAny (model prog w) A (pyIter it) (fun it' s' => codeAny (model prog w) A (Code.compLoop (.DictComp kx vx [⟨t0, i0, ifs0, 0⟩, ⟨t1, i1, ifs1, 0⟩] scope pos) 1 it' acc env) R s') (notedBy (model prog w) A env fun e s' => R (.error e) s') s) :
    codeAny (model prog w) A (Code.compStart (.DictComp kx vx [⟨t0, i0, ifs0, 0⟩, ⟨t1, i1, ifs1, 0⟩] scope pos) 1 it acc env) R s := by
  refine codeAny_of_tree (wpAny_notedAt ?_)
  refine wpAny_bind (wpAny_askSetting (wpAny_ite ?_))
  split
  · exact wpAny_bind (wpAny_pure (wpAny_pure ⟨rfl, h0⟩))
  · exact wpAny_bind (wpAny_rule (wpAny_bind (wpAny_standAt (wpAny_bind (wpAny_mono h (fun it' s' h' => wpAny_pure ⟨rfl, h'⟩) fun _ _ h' => h')))))
end
def tDc2 (wi : TI) (g : TG) (tt : TT) (wi1 : TI) (g1 : TG) (tt1 : TT) (tk tv : TE) (vs vs1 : List Nat) : TE := fun σ H Q =>
  wi σ H fun J H1 => ∀ D : Addr, H1 D = none → ∃ W : Nat → Nat → Hp → Prop, (∃ m, W 0 m (upd H1 D (.dK []))) ∧ ∀ (i m : Nat) (H : Hp), W i m H →
    J.stop i H ∧ Q (.ref D) H ∨ J.go i H ∧ ∃ Nx : Hp → Prop, (∀ H', Nx H' → ∃ m', m' < m ∧ W (i + 1) m' H') ∧ ∀ (x : V) (H' : Hp), J.yld i H x H' →
      g x (wipe σ vs) H' fun σ2 H2 => wipe σ2 vs = wipe σ vs ∧ tt σ2 H2 fun b H3 => if b = true then
        wi1 σ2 H3 fun J1 H4 => ∃ W1 : Nat → Nat → Hp → Prop, (∃ m, W1 0 m H4) ∧ ∀ (j k : Nat) (H : Hp), W1 j k H →
          J1.stop j H ∧ Nx H ∨ J1.go j H ∧ ∃ Nx1 : Hp → Prop, (∀ H', Nx1 H' → ∃ k', k' < k ∧ W1 (j + 1) k' H') ∧ ∀ (x : V) (H' : Hp), J1.yld j H x H' →
            g1 x (wipe σ2 vs1) H' fun σ3 H5 => wipe σ3 vs1 = wipe σ2 vs1 ∧ tt1 σ3 H5 fun b H6 => if b = true then
              tk σ3 H6 fun y H7 => tv σ3 H7 fun z H8 => ∃ (kvs : List (Key × V)) (k : Key), y = kV k ∧ H8 D = some (.dK kvs) ∧ kvs.length < sizeLine ∧ Nx1 (upd H8 D (.dK (putK kvs k z)))
            else Nx1 H6
      else Nx H3
theorem dc2_core {X : Cx} {pins : List (Addr × Obj)} {s : Shared} {σ : St} {H : Hp} {Q : VK} {kx vx tg iter tg1 iter1 : Expr} {ifs ifs1 : List Expr} {scope : Scope} {own : List (Str × Nat)} {vs1 : List Nat} {pos pos' : Pos} {wi wi1 : TI} {g g1 : TG} {tt tt1 : TT} {tk tv : TE} {use : Option (Value → Sem Unit)} {Qf : Value → Shared → Prop}
    (hc : X.calm = true) (hN : X.N.Nodup) (I : Inv X pins σ H s) (hi : PI X tg iter wi) (ok : BlkOk X.N X.env.scope scope own) (hv : ∀ i ∈ vs1, i ∈ own.map (·.2))
    (hg : ∀ (s : Shared) (H : Hp) (C : Addr) (cl : List (Str × Addr)) (fp : List Addr), PG (X.blk s H scope (compEnvC scope cl C X.env) fp) tg g)
    (ht : ∀ (s : Shared) (H : Hp) (C : Addr) (cl : List (Str × Addr)) (fp : List Addr), PTs (X.blk s H scope (compEnvC scope cl C X.env) fp) ifs tt)
    (hk : ∀ (s : Shared) (H : Hp) (C : Addr) (cl : List (Str × Addr)) (fp : List Addr), PE (X.blk s H scope (compEnvC scope cl C X.env) fp) kx tk)
    (he : ∀ (s : Shared) (H : Hp) (C : Addr) (cl : List (Str × Addr)) (fp : List Addr), PE (X.blk s H scope (compEnvC scope cl C X.env) fp) vx tv)
    (hs : ∀ x : Value, foldedSetIterable iter X.env x = pure x)
    (hi1 : ∀ (s : Shared) (H : Hp) (C : Addr) (cl : List (Str × Addr)) (fp : List Addr), PI (X.blk s H scope (compEnvC scope cl C X.env) fp) tg1 iter1 wi1)
    (hg1 : ∀ (s : Shared) (H : Hp) (C : Addr) (cl : List (Str × Addr)) (fp : List Addr), PG (X.blk s H scope (compEnvC scope cl C X.env) fp) tg1 g1)
    (ht1 : ∀ (s : Shared) (H : Hp) (C : Addr) (cl : List (Str × Addr)) (fp : List Addr), PTs (X.blk s H scope (compEnvC scope cl C X.env) fp) ifs1 tt1)
    (hs1 : ∀ (env : Env) (x : Value), foldedSetIterable iter1 env x = pure x)
    (h : tDc2 wi g tt wi1 g1 tt1 tk tv (own.map (·.2)) vs1 σ H Q)
    (hRR : ∀ (D C : Addr) (s' : Shared) (m : Str → Option Value) (H' : Hp), Inv X pins σ H' s' → Q (.ref D) H' → s'.heap.Ns C m → FpOk X pins H' C → compPost (model X.prog X.w) X.A X.xe use Qf (.ref D) C (.ok .next) s') :
    wpAny (model X.prog X.w) X.A (comprehension (.DictComp kx vx [⟨tg, iter, ifs, 0⟩, ⟨tg1, iter1, ifs1, 0⟩] scope pos) scope X.env pos' newDict false (eval iter X.env) use) Qf X.xe s := by
  have hs16 := sizeLine_eq
  refine wpAny_comprehension_free rfl hs (closure_ok fun y hy e => (ok.free y hy e).elim (fun k => I.ok.has y.1 (.inl k)) fun k => I.ok.has y.1 (.inr k)) ok.kind (fun y hy e => by rw [ok.uniq y hy, e]) ?_
  refine thn (hi.run pins s σ H _ I h) fun xv s1 hx => thn hx fun itv s2 h2 => ?_
  obtain ⟨it, fp, tn, J, H2, e, I2, T, st2, f2, q⟩ := h2
  subst e
  refine wpAny_newObj_type (newEnv_comp ?_) (by show _ ≤ _; rw [sizeLine_eq]; show 0 ≤ _; exact Nat.zero_le _)
  have hDn := HOk.fresh I2.hok (Nat.le_of_eq (Eq.refl s2.heap.objs.size))
  obtain ⟨W, ⟨m0, w0⟩, turn⟩ := q s2.heap.objs.size hDn
  have I3 : Inv X pins σ (upd H2 s2.heap.objs.size (.dK [])) { s2 with heap := s2.heap.push { cls := .type "dict", data := .dict #[] } } :=
    Inv.laid I2 (fun b o e => Heap.get?_push_of_some _ e) (Nat.le_of_eq rfl) (dk_empty s2.heap (Inv.big I2))
  have sz : ∀ b ∈ fp, b < s2.heap.objs.size := fun b hb => by
    obtain ⟨o, e, _⟩ := T.obj 0 s2.heap st2 b hb
    exact Heap.lt_size e
  have f3 : ∀ b ∈ fp, FpOk X pins (upd H2 s2.heap.objs.size (.dK [])) b ∧ b < ({ s2 with heap := s2.heap.push { cls := .type "dict", data := .dict #[] } } : Shared).heap.objs.size := fun b hb => by
    have hlt := sz b hb
    refine ⟨⟨by rw [upd_ne (Nat.ne_of_lt hlt)]; exact (f2 b hb).1, (f2 b hb).2⟩, ?_⟩
    show b < (s2.heap.push _).objs.size
    rw [Heap.size_push]
    exact Nat.lt_succ_of_lt hlt
  have st3 := T.keep 0 s2.heap (s2.heap.push { cls := .type "dict", data := .dict #[] }) st2 fun b x o e => Heap.get?_push_of_some _ e
  have I4 := block_start I3 ok hN f3
  have nfp : ∀ b ∈ fp, upd H2 s2.heap.objs.size (.dK []) b = none := fun b hb => (f3 b hb).1.1
  have st3' : tn 0 ({ s2 with heap := s2.heap.push { cls := .type "dict", data := .dict #[] } } : Shared).heap := st3
  generalize hS3 : ({ s2 with heap := s2.heap.push { cls := .type "dict", data := .dict #[] } } : Shared) = S3 at I3 f3 I4 st3' ⊢
  have pg := hg S3 (upd H2 s2.heap.objs.size (.dK [])) S3.heap.objs.size (cellsFrom (S3.heap.objs.size + 1) scope.names (cloFrom X.env.cells scope.names [])) fp
  have pt := ht S3 (upd H2 s2.heap.objs.size (.dK [])) S3.heap.objs.size (cellsFrom (S3.heap.objs.size + 1) scope.names (cloFrom X.env.cells scope.names [])) fp
  have pk := hk S3 (upd H2 s2.heap.objs.size (.dK [])) S3.heap.objs.size (cellsFrom (S3.heap.objs.size + 1) scope.names (cloFrom X.env.cells scope.names [])) fp
  have pe := he S3 (upd H2 s2.heap.objs.size (.dK [])) S3.heap.objs.size (cellsFrom (S3.heap.objs.size + 1) scope.names (cloFrom X.env.cells scope.names [])) fp
  have pi1 := hi1 S3 (upd H2 s2.heap.objs.size (.dK [])) S3.heap.objs.size (cellsFrom (S3.heap.objs.size + 1) scope.names (cloFrom X.env.cells scope.names [])) fp
  have pg1 := hg1 S3 (upd H2 s2.heap.objs.size (.dK [])) S3.heap.objs.size (cellsFrom (S3.heap.objs.size + 1) scope.names (cloFrom X.env.cells scope.names [])) fp
  have pt1 := ht1 S3 (upd H2 s2.heap.objs.size (.dK [])) S3.heap.objs.size (cellsFrom (S3.heap.objs.size + 1) scope.names (cloFrom X.env.cells scope.names [])) fp
  show codeAny (model X.prog X.w) X.A (Code.compStart (.DictComp kx vx [⟨tg, iter, ifs, 0⟩, ⟨tg1, iter1, ifs1, 0⟩] scope pos) 0 (.ref it) (.ref s2.heap.objs.size) (compEnvC scope (cellsFrom (S3.heap.objs.size + 1) scope.names (cloFrom X.env.cells scope.names [])) S3.heap.objs.size X.env)) (compPost (model X.prog X.w) X.A X.xe use Qf (.ref s2.heap.objs.size) S3.heap.objs.size) { S3 with heap := pushCells (S3.heap.push { cls := .type "dict", data := .dict #[] }) scope.names }
  have cL : (compEnvC scope (cellsFrom (S3.heap.objs.size + 1) scope.names (cloFrom X.env.cells scope.names [])) S3.heap.objs.size X.env).locals = S3.heap.objs.size := rfl
  generalize (compEnvC scope (cellsFrom (S3.heap.objs.size + 1) scope.names (cloFrom X.env.cells scope.names [])) S3.heap.objs.size X.env) = ce at I4 pg pt pk pe pi1 pg1 pt1 cL ⊢
  have st4 := T.keep 0 S3.heap (pushCells (S3.heap.push { cls := .type "dict", data := .dict #[] }) scope.names) st3' fun b x o e => pushCells_keeps scope.names _ b o (Heap.get?_push_of_some _ e)
  have stat : ∀ {σ' : St} {H' : Hp} {s' : Shared}, Inv (X.blk S3 (upd H2 s2.heap.objs.size (.dK [])) scope ce fp) [] σ' H' s' → (∀ b ∈ fp, H' b = none) → ∀ b ∈ fp, FpOk (X.blk S3 (upd H2 s2.heap.objs.size (.dK [])) scope ce fp) [] H' b := fun I' hn b hb =>
    ⟨hn b hb, (I'.ok.exf b hb).1, I'.ok.exfs b hb, Or.inl hb, fun x c e => (I'.ok.exf b hb).2 x c e, fun p hp => absurd (show p ∈ ([] : List (Addr × Obj)) from hp) (by simp)⟩
  have loop : codeAny (model X.prog X.w) X.A (Code.compLoop (.DictComp kx vx [⟨tg, iter, ifs, 0⟩, ⟨tg1, iter1, ifs1, 0⟩] scope pos) 0 (.ref it) (.ref s2.heap.objs.size) ce) (compPost (model X.prog X.w) X.A X.xe use Qf (.ref s2.heap.objs.size) S3.heap.objs.size) { S3 with heap := pushCells (S3.heap.push { cls := .type "dict", data := .dict #[] }) scope.names } := by
    refine dLoop2_out (hs1 ce) (fun n s' => ∃ i H', Inv (X.blk S3 (upd H2 s2.heap.objs.size (.dK [])) scope ce fp) [] (wipe σ (own.map (·.2))) H' s' ∧ tn i s'.heap ∧ (∀ b ∈ fp, H' b = none) ∧ W i n H') (fun n s5 a => ?_) m0 ⟨0, _, I4, st4, nfp, w0⟩
    obtain ⟨i, H5, I5, st5, n5, w5⟩ := a
    rcases turn i n H5 w5 with ⟨stop, qq⟩ | ⟨go, Nx, hNx, step⟩
    · have td := T.done (X.blk S3 (upd H2 s2.heap.objs.size (.dK [])) scope ce fp) rfl rfl rfl hc i [] s5 (wipe σ (own.map (·.2))) H5 (fun _ _ => False) I5 (stat I5 n5) st5 stop
      refine thnF td fun r s6 x => ?_
      obtain ⟨hr, I6⟩ := x
      subst hr
      have I7 := Inv.call' I3 I6.os I6.base I6.hok I6.bare fun b hb => ⟨(f3 b hb).1.2.2.2.1, (f3 b hb).1.2.1, (f3 b hb).1.2.2.2.2.1, (f3 b hb).1.2.2.2.2.2⟩
      have nC : H5 S3.heap.objs.size = none := by
        have z := I6.free
        rw [← cL]
        exact z
      obtain ⟨m, hn, _⟩ := I6.loc
      have hn' : s6.heap.Ns S3.heap.objs.size m := by rw [← cL]; exact hn
      exact hRR s2.heap.objs.size S3.heap.objs.size s6 m H5 I7 qq hn' (Inv.fpOk I3 (Nat.le_refl _) nC)
    · have ti := T.item (X.blk S3 (upd H2 s2.heap.objs.size (.dK [])) scope ce fp) rfl rfl rfl hc i [] s5 (wipe σ (own.map (·.2))) H5 (fun _ _ => False) I5 (stat I5 n5) st5 go
      refine thnF ti fun r s6 x => ?_
      obtain ⟨u, hr, h6⟩ := x
      subst hr
      refine thnF h6 fun x s7 x1 => ?_
      obtain ⟨x, H7, I7, r7, y7, st7, n7⟩ := x1
      have I7' := Inv.pinned I7 (stat I7 n7) (T.obj (i + 1) s7.heap st7)
      refine thnF (pg.run ([] ++ pinsAt fp s7.heap) s7 (wipe σ (own.map (·.2))) H7 x u _ I7' r7 (step x H7 y7)) fun x s8 x2 => ?_
      obtain ⟨σ8, H8, I8, hw8, q8⟩ := x2
      refine thnF (pt.run ([] ++ pinsAt fp s7.heap) s8 σ8 H8 _ I8 q8) fun b s9 x => ?_
      obtain ⟨H9, I9, q9⟩ := x
      have fin : ∀ {σ9 : St} {s' : Shared} {H' : Hp}, Inv (X.blk S3 (upd H2 s2.heap.objs.size (.dK [])) scope ce fp) ([] ++ pinsAt fp s7.heap) σ9 H' s' → (wipe σ (own.map (·.2))).length = σ9.length → (∀ (j : Nat) (v : V), (wipe σ (own.map (·.2)))[j]? = some (some v) → σ9[j]? = some (some v)) → Nx H' →
          ∃ m, m < n ∧ ∃ i H', Inv (X.blk S3 (upd H2 s2.heap.objs.size (.dK [])) scope ce fp) [] (wipe σ (own.map (·.2))) H' s' ∧ tn i s'.heap ∧ (∀ b ∈ fp, H' b = none) ∧ W i m H' := fun {σ9 s' H'} I' hl hk nx => by
        obtain ⟨m', hm, w'⟩ := hNx H' nx
        have pin' : ∀ b ∈ fp, ∀ o, s7.heap.get? b = some o → s'.heap.get? b = some o ∧ H' b = none := fun b hb o e => by
          have z := I'.pin (b, o) (List.mem_append_right _ (List.mem_append_right [] (mem_pinsAt hb e)))
          exact ⟨z.1, z.2.1⟩
        refine ⟨m', hm, i + 1, H', Inv.weak (Inv.unpinned I') hl hk, T.keep (i + 1) s7.heap s'.heap st7 fun b hb o e => (pin' b hb o e).1, fun b hb => ?_, w'⟩
        obtain ⟨o, e, _⟩ := T.obj (i + 1) s7.heap st7 b hb
        exact (pin' b hb o e).2
      have hl8 : (wipe σ (own.map (·.2))).length = σ8.length := by rw [← hw8, wipe_length]
      have hk8 : ∀ (j : Nat) (v : V), (wipe σ (own.map (·.2)))[j]? = some (some v) → σ8[j]? = some (some v) := fun j v e => by
        rw [← hw8] at e
        exact (wipe_some e).1
      have hk9 : ∀ (j : Nat) (v : V), (wipe σ (own.map (·.2)))[j]? = some (some v) → (wipe σ8 vs1)[j]? = some (some v) := fun j v e => by
        rw [← hw8] at e
        obtain ⟨e1, e2⟩ := wipe_some e
        rw [wipe_out fun z => e2 (hv j z)]
        exact e1
      cases b with
      | false =>
        rw [if_neg (by decide)] at q9 ⊢
        exact fin I9 hl8 hk8 q9
      | true =>
        rw [if_pos rfl] at q9 ⊢
        refine thnF (pi1.run ([] ++ pinsAt fp s7.heap) s9 σ8 H9 _ I9 q9) fun xv s10 hx => thnF hx fun itv s11 h11 => ?_
        obtain ⟨it1, fp1, tn1, J1, H11, e1, I11, T1, st11, f11, W1, ⟨m1, w1⟩, turn1⟩ := h11
        subst e1
        have stat1 : ∀ {H' : Hp}, (∀ b ∈ fp1, H' b = none) → ∀ b ∈ fp1, FpOk (X.blk S3 (upd H2 s2.heap.objs.size (.dK [])) scope ce fp) ([] ++ pinsAt fp s7.heap) H' b := fun hn b hb => ⟨hn b hb, (f11 b hb).2⟩
        have loop1 : codeAny (model X.prog X.w) X.A (Code.compLoop (.DictComp kx vx [⟨tg, iter, ifs, 0⟩, ⟨tg1, iter1, ifs1, 0⟩] scope pos) 1 (.ref it1) (.ref s2.heap.objs.size) ce)
            (fun r s' => match r with
              | .ok a => ∃ m, m < n ∧ ∃ i H', Inv (X.blk S3 (upd H2 s2.heap.objs.size (.dK [])) scope ce fp) [] (wipe σ (own.map (·.2))) H' s' ∧ tn i s'.heap ∧ (∀ b ∈ fp, H' b = none) ∧ W i m H'
              | .error a => False) s11 := by
          refine dLoop2_in (fun k s' => ∃ j H', Inv (X.blk S3 (upd H2 s2.heap.objs.size (.dK [])) scope ce fp) ([] ++ pinsAt fp s7.heap) (wipe σ8 vs1) H' s' ∧ tn1 j s'.heap ∧ (∀ b ∈ fp1, H' b = none) ∧ W1 j k H') (fun k s12 a => ?_) m1 ⟨0, H11, Inv.weak I11 (wipe_length σ8 vs1) (fun j v e => (wipe_some e).1), st11, fun b hb => (f11 b hb).1, w1⟩
          obtain ⟨j, H12, I12, st12, n12, w12⟩ := a
          rcases turn1 j k H12 w12 with ⟨stop1, nx1⟩ | ⟨go1, Nx1, hNx1, step1⟩
          · refine thnF (T1.done (X.blk S3 (upd H2 s2.heap.objs.size (.dK [])) scope ce fp) rfl rfl rfl hc j ([] ++ pinsAt fp s7.heap) s12 (wipe σ8 vs1) H12 (fun _ _ => False) I12 (stat1 n12) st12 stop1) fun r s13 x => ?_
            obtain ⟨hr, I13⟩ := x
            subst hr
            exact fin I13 (hl8.trans (wipe_length σ8 vs1).symm) hk9 nx1
          · refine thnF (T1.item (X.blk S3 (upd H2 s2.heap.objs.size (.dK [])) scope ce fp) rfl rfl rfl hc j ([] ++ pinsAt fp s7.heap) s12 (wipe σ8 vs1) H12 (fun _ _ => False) I12 (stat1 n12) st12 go1) fun r s13 x => ?_
            obtain ⟨u1, hr, h13⟩ := x
            subst hr
            refine thnF h13 fun x s14 x3 => ?_
            obtain ⟨x1, H14, I14, r14, y14, st14, n14⟩ := x3
            have I14' := Inv.pinned I14 (stat1 n14) (T1.obj (j + 1) s14.heap st14)
            refine thnF (pg1.run ([] ++ pinsAt fp s7.heap ++ pinsAt fp1 s14.heap) s14 (wipe σ8 vs1) H14 x1 u1 _ I14' r14 (step1 x1 H14 y14)) fun x s15 x4 => ?_
            obtain ⟨σ15, H15, I15, hw15, q15⟩ := x4
            refine thnF (pt1.run ([] ++ pinsAt fp s7.heap ++ pinsAt fp1 s14.heap) s15 σ15 H15 _ I15 q15) fun b1 s16 x => ?_
            obtain ⟨H16, I16, q16⟩ := x
            have fin1 : ∀ {s' : Shared} {H' : Hp}, Inv (X.blk S3 (upd H2 s2.heap.objs.size (.dK [])) scope ce fp) ([] ++ pinsAt fp s7.heap ++ pinsAt fp1 s14.heap) σ15 H' s' → Nx1 H' →
                ∃ m, m < k ∧ ∃ j H', Inv (X.blk S3 (upd H2 s2.heap.objs.size (.dK [])) scope ce fp) ([] ++ pinsAt fp s7.heap) (wipe σ8 vs1) H' s' ∧ tn1 j s'.heap ∧ (∀ b ∈ fp1, H' b = none) ∧ W1 j m H' := fun {s' H'} I' nx => by
              obtain ⟨m', hm, w'⟩ := hNx1 H' nx
              have pin' : ∀ b ∈ fp1, ∀ o, s14.heap.get? b = some o → s'.heap.get? b = some o ∧ H' b = none := fun b hb o e => by
                have z := I'.pin (b, o) (List.mem_append_right _ (List.mem_append_right _ (mem_pinsAt hb e)))
                exact ⟨z.1, z.2.1⟩
              refine ⟨m', hm, j + 1, H', Inv.weak (Inv.unpinned I') (by rw [← hw15, wipe_length]) (fun j v e => by rw [← hw15] at e; exact (wipe_some e).1), T1.keep (j + 1) s14.heap s'.heap st14 fun b hb o e => (pin' b hb o e).1, fun b hb => ?_, w'⟩
              obtain ⟨o, e, _⟩ := T1.obj (j + 1) s14.heap st14 b hb
              exact (pin' b hb o e).2
            cases b1 with
            | false =>
              rw [if_neg (by decide)] at q16 ⊢
              exact fin1 I16 q16
            | true =>
              rw [if_pos rfl] at q16 ⊢
              refine thnF (pk.run ([] ++ pinsAt fp s7.heap ++ pinsAt fp1 s14.heap) s16 σ15 H16 _ I16 q16) fun z s17 x => ?_
              obtain ⟨yk, H17, I17, r17, q17⟩ := x
              refine thnF (pe.run ([] ++ pinsAt fp s7.heap ++ pinsAt fp1 s14.heap) s17 σ15 H17 _ I17 q17) fun z2 s18 x => ?_
              obtain ⟨yv, H18, I18, r18, kvs, k', ek, hD18, hz18, nx⟩ := x
              subst ek
              exact d_dictSet (X := X.blk S3 (upd H2 s2.heap.objs.size (.dK [])) scope ce fp) I18 hD18 hz18 r17 r18 fun s19 I19 => fin1 I19 nx
        exact dStart1_ok loop1 (T1.self X.A 0 s11 _ _ st11 loop1)
  exact codeAny_compStart_dict loop (T.self X.A 0 _ _ _ st4 loop)
theorem pe_dc2 {X : Cx} {kx vx tg iter tg1 iter1 : Expr} {ifs ifs1 : List Expr} {scope : Scope} {own : List (Str × Nat)} {vs1 : List Nat} {pos : Pos} {wi wi1 : TI} {g g1 : TG} {tt tt1 : TT} {tk tv : TE}
    (hc : X.calm = true) (hN : X.N.Nodup) (hi : PI X tg iter wi) (ok : BlkOk X.N X.env.scope scope own) (hv : ∀ i ∈ vs1, i ∈ own.map (·.2))
    (hg : ∀ (s : Shared) (H : Hp) (C : Addr) (cl : List (Str × Addr)) (fp : List Addr), PG (X.blk s H scope (compEnvC scope cl C X.env) fp) tg g)
    (ht : ∀ (s : Shared) (H : Hp) (C : Addr) (cl : List (Str × Addr)) (fp : List Addr), PTs (X.blk s H scope (compEnvC scope cl C X.env) fp) ifs tt)
    (hi1 : ∀ (s : Shared) (H : Hp) (C : Addr) (cl : List (Str × Addr)) (fp : List Addr), PI (X.blk s H scope (compEnvC scope cl C X.env) fp) tg1 iter1 wi1)
    (hg1 : ∀ (s : Shared) (H : Hp) (C : Addr) (cl : List (Str × Addr)) (fp : List Addr), PG (X.blk s H scope (compEnvC scope cl C X.env) fp) tg1 g1)
    (ht1 : ∀ (s : Shared) (H : Hp) (C : Addr) (cl : List (Str × Addr)) (fp : List Addr), PTs (X.blk s H scope (compEnvC scope cl C X.env) fp) ifs1 tt1)
    (hk : ∀ (s : Shared) (H : Hp) (C : Addr) (cl : List (Str × Addr)) (fp : List Addr), PE (X.blk s H scope (compEnvC scope cl C X.env) fp) kx tk)
    (he : ∀ (s : Shared) (H : Hp) (C : Addr) (cl : List (Str × Addr)) (fp : List Addr), PE (X.blk s H scope (compEnvC scope cl C X.env) fp) vx tv)
    (hs : ∀ x : Value, foldedSetIterable iter X.env x = pure x := by intro _; rfl) (hs1 : ∀ (env : Env) (x : Value), foldedSetIterable iter1 env x = pure x := by intro _ _; rfl) :
    PE X (.DictComp kx vx [⟨tg, iter, ifs, 0⟩, ⟨tg1, iter1, ifs1, 0⟩] scope pos) (tDc2 wi g tt wi1 g1 tt1 tk tv (own.map (·.2)) vs1) := by
  refine ⟨fun pins s σ H Q I h => ?_⟩
  rw [arm_eval_DictComp]
  refine dc2_core hc hN I hi ok hv hg ht hk he hs hi1 hg1 ht1 hs1 h fun D C s' m H' I' q hn f => ?_
  obtain ⟨f0, f1, f2, f3, f4, f5⟩ := f
  exact ⟨m, hn, fun h'' sb => ⟨.ref D, H', Inv.turned I' (fun b o hb e => (sb.2 b hb).trans e) f0 f1 f3 f4 f5, rfl, q⟩⟩
theorem ps_setDc2 {X : Cx} {j : Nat} {nm : Str} {qy : Pos} {kx vx tg iter tg1 iter1 : Expr} {ifs ifs1 : List Expr} {scope : Scope} {own : List (Str × Nat)} {vs1 : List Nat} {pos sq : Pos} {wi wi1 : TI} {g g1 : TG} {tt tt1 : TT} {tk tv : TE}
    (hc : X.calm = true) (hN : X.N.Nodup) (at_ : X.N[j]? = some nm) (loc : X.env.scope.names.lookup nm = some .local) (sw : swapsWith (.DictComp kx vx [⟨tg, iter, ifs, 0⟩, ⟨tg1, iter1, ifs1, 0⟩] scope pos) (some (.Name nm qy)) sq.line X.env = pure true)
    (hi : PI X tg iter wi) (ok : BlkOk X.N X.env.scope scope own) (hv : ∀ i ∈ vs1, i ∈ own.map (·.2))
    (hg : ∀ (s : Shared) (H : Hp) (C : Addr) (cl : List (Str × Addr)) (fp : List Addr), PG (X.blk s H scope (compEnvC scope cl C X.env) fp) tg g)
    (ht : ∀ (s : Shared) (H : Hp) (C : Addr) (cl : List (Str × Addr)) (fp : List Addr), PTs (X.blk s H scope (compEnvC scope cl C X.env) fp) ifs tt)
    (hi1 : ∀ (s : Shared) (H : Hp) (C : Addr) (cl : List (Str × Addr)) (fp : List Addr), PI (X.blk s H scope (compEnvC scope cl C X.env) fp) tg1 iter1 wi1)
    (hg1 : ∀ (s : Shared) (H : Hp) (C : Addr) (cl : List (Str × Addr)) (fp : List Addr), PG (X.blk s H scope (compEnvC scope cl C X.env) fp) tg1 g1)
    (ht1 : ∀ (s : Shared) (H : Hp) (C : Addr) (cl : List (Str × Addr)) (fp : List Addr), PTs (X.blk s H scope (compEnvC scope cl C X.env) fp) ifs1 tt1)
    (hk : ∀ (s : Shared) (H : Hp) (C : Addr) (cl : List (Str × Addr)) (fp : List Addr), PE (X.blk s H scope (compEnvC scope cl C X.env) fp) kx tk)
    (he : ∀ (s : Shared) (H : Hp) (C : Addr) (cl : List (Str × Addr)) (fp : List Addr), PE (X.blk s H scope (compEnvC scope cl C X.env) fp) vx tv)
    (hs : ∀ x : Value, foldedSetIterable iter X.env x = pure x := by intro _; rfl) (hs1 : ∀ (env : Env) (x : Value), foldedSetIterable iter1 env x = pure x := by intro _ _; rfl) :
    PS X (.Assign [.Name nm qy] (.DictComp kx vx [⟨tg, iter, ifs, 0⟩, ⟨tg1, iter1, ifs1, 0⟩] scope pos) sq) (tAsg (tDc2 wi g tt wi1 g1 tt1 tk tv (own.map (·.2)) vs1) (gName j)) := by
  constructor
  intro pn st sl hp ends inv rd
  rw [exec_Assign_Name_used _ _ _ _ sw]
  refine wpAny_bind (wpAny_standAt ?_)
  refine wpAny_bind ?_
  show wpAny _ X.A (do let _ ← comprehension (.DictComp kx vx [⟨tg, iter, ifs, 0⟩, ⟨tg1, iter1, ifs1, 0⟩] scope pos) scope X.env (firstIterPos [⟨tg, iter, ifs, 0⟩, ⟨tg1, iter1, ifs1, 0⟩] pos) newDict false (eval iter X.env) (some (assign (.Name nm qy) X.env))) _ _ st
  have rd' : tDc2 wi g tt wi1 g1 tt1 tk tv (own.map (·.2)) vs1 sl hp (fun x H1 => gName j x sl H1 ends.nx) := rd
  refine wpAny_bind (thn (dc2_core (Qf := fun _ st' => SP X pn ends .next st') hc hN inv hi ok hv hg ht hk he hs hi1 hg1 ht1 hs1 rd' fun D C st1 mm hp1 inv1 q1 ns fr => ?_) fun _ st' hq => ?_)
  · show wpAny _ _ (assign (.Name nm qy) X.env (.ref D)) _ _ _
    refine wpAny_assign_Name (store_ok2 (v := V.ref D) inv1 hN at_ (.inl loc) rfl (fun st2 inv2 ⟨b, sb, hb⟩ => ?_) (.inr loc))
    obtain ⟨a0, a1, a2, a3, a4, a5⟩ := fr
    have cb : C ≠ b := by
      rcases hb with z | z
      · rw [z]
        exact a1
      · exact fun e => a4 nm b z e.symm
    refine ⟨mm, ns.sameBut sb cb, fun h3 sb3 => ⟨_, hp1, inv2.turned (t' := st2.toks) (fun b o nb e => (sb3.2 b nb).trans e) a0 a1 a3 a4 a5, q1⟩⟩
  · exact wpAny_pure (wpAny_pure hq)
/-- the inner walk of one turn -/
theorem in_it {J1 : It} {n1 : Nat} {G1 : Hp → Prop} {Y1 : Nat → Hp → V → Hp → Prop} (wk : Walk J1 n1 G1 Y1) {Nx : Hp → Prop} {tb : V → (Hp → Prop) → Hp → Prop} {H0 : Hp} (Pv : Nat → Hp → Prop) (h0 : Pv 0 H0) (hG : ∀ i H, i ≤ n1 → Pv i H → G1 H)
    (step : ∀ i x H H', i < n1 → Pv i H → Y1 i H x H' → tb x (Pv (i + 1)) H') (fin : ∀ H, Pv n1 H → Nx H) :
    ∃ W1 : Nat → Nat → Hp → Prop, (∃ m, W1 0 m H0) ∧ ∀ (j k : Nat) (H : Hp), W1 j k H → J1.stop j H ∧ Nx H ∨ J1.go j H ∧ ∃ Nx1 : Hp → Prop, (∀ H', Nx1 H' → ∃ k', k' < k ∧ W1 (j + 1) k' H') ∧ ∀ (x : V) (H' : Hp), J1.yld j H x H' → tb x Nx1 H' := by
  refine ⟨fun j k H => j + k = n1 ∧ Pv j H, ⟨n1, by omega, h0⟩, fun j k H ⟨e, hP⟩ => ?_⟩
  by_cases hj : j < n1
  · exact .inr ⟨wk.goes j H hj (hG j H (by omega) hP), Pv (j + 1), fun H' h' => ⟨k - 1, by omega, by omega, h'⟩, fun x H' y => step j x H H' hj hP (wk.yields j H x H' hj (hG j H (by omega) hP) y)⟩
  · obtain rfl : j = n1 := by omega
    exact .inl ⟨wk.stops H (hG j H (Nat.le_refl _) hP), fin H hP⟩
end L2

set_option Elab.async false
set_option linter.all false
set_option maxRecDepth 100000
set_option maxHeartbeats 4000000
namespace Fp
open PySem PySem.Spec PyProof.Rows L2
theorem unlockT {H H' : Hp} {d : Addr} {o : HO} (hd : H d = some o) (k : But d H H') : Same H (upd H' d o) := fun b x e => by
  by_cases n : b = d
  · rw [n, upd_same, ← hd, ← n, e]
  · rw [upd_ne n]
    exact k b x e n
theorem fr_take {s : Nat} {h : Str} {l : Tb} {i : Nat} {p : Str × Int} (e : l[i]? = some p) : frT s h (l.take (i + 1)) = if bw s p.1 = bw s h then frT s h (l.take i) ++ [(fw s p.1, p.2)] else frT s h (l.take i) := by
  unfold frT
  rw [List.take_add_one, e]
  by_cases hh : bw s p.1 = bw s h
  · rw [if_pos hh, List.filter_append, List.map_append, show (some p).toList.filter (fun p => decide (bw s p.1 = bw s h)) = [p] from List.filter_cons_of_pos (by simpa using hh)]
    rfl
  · rw [if_neg hh, List.filter_append, show (some p).toList.filter (fun p => decide (bw s p.1 = bw s h)) = [] from List.filter_cons_of_neg (by simpa using hh), List.append_nil]
theorem bk_take {s : Nat} {h : Str} {l : Tb} {i : Nat} {p : Str × Int} (e : l[i]? = some p) : bkT s h (l.take (i + 1)) = if fw s p.1 = fw s h then bkT s h (l.take i) ++ [(bw s p.1, p.2)] else bkT s h (l.take i) := by
  unfold bkT
  rw [List.take_add_one, e]
  by_cases hh : fw s p.1 = fw s h
  · rw [if_pos hh, List.filter_append, List.map_append, show (some p).toList.filter (fun p => decide (fw s p.1 = fw s h)) = [p] from List.filter_cons_of_pos (by simpa using hh)]
    rfl
  · rw [if_neg hh, List.filter_append, show (some p).toList.filter (fun p => decide (fw s p.1 = fw s h)) = [] from List.filter_cons_of_neg (by simpa using hh), List.append_nil]
theorem has_last {l : Tb} {p : Str × Int} (h : Nd (l ++ [p])) : has l p.1 = false := by
  cases z : has l p.1 with
  | false => rfl
  | true =>
    exfalso
    unfold Nd at h
    rw [List.map_append] at h
    exact (List.nodup_append.mp h).2.2 p.1 (has_iff.mp z) p.1 (by simp) rfl
theorem nd_take {l : Tb} (h : Nd l) (i : Nat) : Nd (l.take i) := by
  unfold Nd
  rw [List.map_take]
  exact (List.take_sublist _ _).nodup h
theorem lev_take {n : Nat} {l : Tb} (h : Lev n l) (i : Nat) : Lev n (l.take i) := fun p hp => h p (List.mem_of_mem_take hp)
theorem put_last {l : Tb} {p : Str × Int} (h : has l p.1 = false) : putT l p.1 p.2 = l ++ [p] := by
  unfold putT
  rw [h]
  rfl
theorem hd_len {n : Nat} {l : Tb} (hne : l ≠ []) (hl : Lev n l) : (hdW l).length = n := by
  obtain ⟨p, hp, e⟩ := List.mem_map.mp (hd_first hne).1
  rw [← e]
  exact hl p hp
theorem kv_keys' (g : Tb) : (kv g).map (·.1) = (g.map (·.1)).map Sum.inr := by
  unfold kv
  rw [List.map_map, List.map_map]
  rfl
section
variable {P : Program} {w : World} {K : PySem.W.Frag} {mg : Str → Option Value} {base : Heap}
def spLines : Sp := fun vs H Q _ => ∃ (d : Addr) (s n : Nat) (l : Tb), vs = [.ref d, .int s] ∧ H d = some (.dK (kv l)) ∧ Nd l ∧ l ≠ [] ∧ Lev n l ∧ s ≤ n ∧ n ≤ 1000 ∧ l.length ≤ 1000000 ∧
  ∀ H' F B t, Same H H' → H F = none → H B = none → H t = none → H' F = some (.dK (kv (frT s (hdW l) l))) → H' B = some (.dK (kv (bkT s (hdW l) l))) → F ≠ B → H' t = some (.tup [.ref F, .ref B]) → Q (.ref t) H'
abbrev nLines : List Str := ["table", "size", "head", "fronts", "backs", "word", "number"]
theorem sc_lines : FnScope nLines ["table", "size"] (defScope s_lines_of) := ⟨rfl, rfl, rfl, by decide +kernel, rfl, by decide +kernel, by decide +kernel⟩
theorem ok_lines (T : Top K mg) : Ok P w K mg base 5 "lines_of" ["table", "size"] spLines := by
  obtain ⟨fd, F⟩ := fn_lines_of T
  refine ⟨⟨fd, ?_, F.bindsN fun _ _ _ _ _ _ us hl => match us, hl with | [_, _], _ => rfl⟩, g_lines_of T, F.kp⟩
  refine F.ok sc_lines (fun vs H Q E h => ?_) (fun cdv A outer s H vs Q E hr h => ?_)
  · obtain ⟨d, s, n, l, rfl, _⟩ := h
    rfl
  · obtain ⟨d, s, n, l, rfl, hd, hnd, hne, hl, hsn, hn, hll, q⟩ := h
    have nd := sc_lines.nd
    have hu := hu_of hr
    have hs : sizeLine = 16777216 := sizeLine_eq
    obtain ⟨hh1, hh2⟩ := hd_first hne
    have hhl := hd_len hne hl
    refine ⟨_, PSs.nox (pss_cons (ps_set (i := 2) nd rfl (Or.inr rfl) (pc (ok_firstW T) hr (pa_cons (pv 0) pa_nil)))
      (pss_cons (ps_lock (ps_setDc (j := 3) (mine := [("word", 5), ("number", 6)]) (tg := gPair K 5 6) (t2 := tVar 6) rfl nd rfl rfl (sw_dict rfl rfl rfl (by decide +kernel)) (pi_items (pv 0)) (blkOk_by (N := nLines) (sc := defScope s_lines_of) (by decide +kernel))
        (fun _ _ _ _ _ => pg_tup rfl (pgs_cons (pg_name (i := 5) nd rfl (Or.inl rfl)) (pgs_cons (pg_name (i := 6) nd rfl (Or.inl rfl)) pgs_nil)))
        (fun _ _ _ _ _ => by exact pts_one (pt_cmpR op_eq (pe_slice sl_str (pv 5) (po_some (pv 1)) po_none) (pe_slice sl_str (pv 2) (po_some (pv 1)) po_none) (nomark _)))
        (fun _ _ _ _ _ => by exact pe_slice sl_str (pv 5) po_none (po_some (pv 1))) (fun _ _ _ _ _ => pv 6)))
      (pss_cons (ps_lock (ps_setDc (j := 4) (mine := [("word", 5), ("number", 6)]) (tg := gPair K 5 6) (t2 := tVar 6) rfl nd rfl rfl (sw_dict rfl rfl rfl (by decide +kernel)) (pi_items (pv 0)) (blkOk_by (N := nLines) (sc := defScope s_lines_of) (by decide +kernel))
        (fun _ _ _ _ _ => pg_tup rfl (pgs_cons (pg_name (i := 5) nd rfl (Or.inl rfl)) (pgs_cons (pg_name (i := 6) nd rfl (Or.inl rfl)) pgs_nil)))
        (fun _ _ _ _ _ => by exact pts_one (pt_cmpR op_eq (pe_slice sl_str (pv 5) po_none (po_some (pv 1))) (pe_slice sl_str (pv 2) po_none (po_some (pv 1))) (nomark _)))
        (fun _ _ _ _ _ => by exact pe_slice sl_str (pv 5) (po_some (pv 1)) po_none) (fun _ _ _ _ _ => pv 6)))
      (pss_one (ps_ret (pe_tup (pa_cons (pv 3) (pa_cons (pv 4) pa_nil)))))))), ?_⟩
    have hfm : ∀ m ∈ l.map (·.1), (∀ y ∈ l.map (·.1), leR m y = true) → m = hdW l := fun m hm hmin => leR_anti (hmin _ hh1) (hh2 _ hm)
    refine ⟨_, rfl, d, kv l, l.map (·.1), rfl, hd, kv_keys' l, by simpa using hne, fun x hx => ?_, fun m0 hm0 hmin => ?_⟩
    · obtain ⟨p, hp, rfl⟩ := List.mem_map.mp hx
      rw [hl p hp]
      omega
    obtain rfl := hfm m0 hm0 hmin
    generalize hdW l = m at *
    refine ⟨d, _, hd, trivial, fun od => ?_⟩
    refine ⟨_, rfl, d, od, kv l, rfl, upd_same, fun F0 hF => ?_⟩
    have nF : F0 ≠ d := fun e => by
      rw [e, upd_same] at hF
      cases hF
    have hF0 : H F0 = none := by
      rw [upd_ne nF] at hF
      exact hF
    refine dc_it walk_items (fun i H' => H' F0 = some (.dK (kv (frT s m (l.take i)))) ∧ But d H H' ∧ H' d = some (.frz od (.dK (kv l)))) ⟨upd_same, ?_, ?_⟩ (fun i H' _ hP => hP.2.2) ?_ ?_
    · intro b o e n
      rw [upd_ne (ne_of_none e hF0), upd_ne n]
      exact e
    · rw [upd_ne nF.symm]
      exact upd_same
    · rintro i x H1 H2 hi ⟨p1, p2, p3⟩ ⟨t, k, v, rfl, ht, rfl, e1, e2⟩
      obtain ⟨p, ep, rfl, rfl⟩ := kv_item e1 e2
      have nt : F0 ≠ t := ne_of_none p1 ht
      have ndt : d ≠ t := ne_of_none p3 ht
      rw [kv_len] at hi
      have hpl := hl p (List.mem_of_getElem? ep)
      refine ⟨t, _, rfl, .inl (.inl upd_same), rfl, ?_⟩
      refine ⟨_, _, rfl, _, _, rfl, rfl, rfl, ?_⟩
      refine ⟨_, rfl, _, rfl, _, rfl, p.1, rfl, by omega, ?_⟩
      refine ⟨_, rfl, _, rfl, _, rfl, m, rfl, by omega, rfl, _, rfl, ?_⟩
      have et := fr_take (s := s) (h := m) ep
      show if decide (V.str (bw s p.1) = V.str (bw s m)) = true then _ else _
      by_cases hb : bw s p.1 = bw s m
      · rw [decide_eq_true (show V.str (bw s p.1) = V.str (bw s m) by rw [hb])]
        rw [if_pos hb] at et
        refine iteT ?_
        have hh := has_last (p := (fw s p.1, p.2)) (et ▸ nd_fr hsn (nd_take hnd (i + 1)) (lev_take hl (i + 1)))
        refine ⟨_, rfl, _, rfl, _, rfl, p.1, rfl, by omega, _, rfl, _, Sum.inr (fw s p.1), rfl, by rw [upd_ne nt]; exact p1, by rw [kv_len]; have := fr_len s m (l.take i); rw [List.length_take] at this; omega, ?_, ?_, ?_⟩
        · rw [upd_same, putK_kv, et, put_last hh]
        · intro b o e n
          rw [upd_ne (ne_of_none e hF0), upd_ne (ne_of_none (p2 b o e n) ht)]
          exact p2 b o e n
        · rw [upd_ne nF.symm, upd_ne ndt]
          exact p3
      · rw [decide_eq_false (show ¬ V.str (bw s p.1) = V.str (bw s m) from fun z => hb (by injection z))]
        rw [if_neg hb] at et
        refine iteF ?_
        refine ⟨?_, ?_, ?_⟩
        · rw [upd_ne nt, et]
          exact p1
        · intro b o e n
          rw [upd_ne (ne_of_none (p2 b o e n) ht)]
          exact p2 b o e n
        · rw [upd_ne ndt]
          exact p3
    rintro H1 ⟨p1, p2, p3⟩
    rw [kv_len, List.take_length] at p1
    refine ⟨p3, ?_⟩
    have s1 := unlockT hd p2
    have eF : (upd H1 d (.dK (kv l))) F0 = some (.dK (kv (frT s m l))) := by
      rw [upd_ne nF]
      exact p1
    generalize upd H1 d (.dK (kv l)) = G1 at s1 eF ⊢
    have hd1 := s1 _ _ hd
    refine ⟨d, _, hd1, trivial, fun od => ?_⟩
    refine ⟨_, rfl, d, od, kv l, rfl, upd_same, fun B0 hB => ?_⟩
    have nB : B0 ≠ d := fun e => by
      rw [e, upd_same] at hB
      cases hB
    have hB0 : G1 B0 = none := by
      rw [upd_ne nB] at hB
      exact hB
    refine dc_it walk_items (fun i H' => H' B0 = some (.dK (kv (bkT s m (l.take i)))) ∧ But d G1 H' ∧ H' d = some (.frz od (.dK (kv l)))) ⟨upd_same, ?_, ?_⟩ (fun i H' _ hP => hP.2.2) ?_ ?_
    · intro b o e n
      rw [upd_ne (ne_of_none e hB0), upd_ne n]
      exact e
    · rw [upd_ne nB.symm]
      exact upd_same
    · rintro i x H1 H2 hi ⟨p1, p2, p3⟩ ⟨t, k, v, rfl, ht, rfl, e1, e2⟩
      obtain ⟨p, ep, rfl, rfl⟩ := kv_item e1 e2
      have nt : B0 ≠ t := ne_of_none p1 ht
      have ndt : d ≠ t := ne_of_none p3 ht
      rw [kv_len] at hi
      have hpl := hl p (List.mem_of_getElem? ep)
      refine ⟨t, _, rfl, .inl (.inl upd_same), rfl, ?_⟩
      refine ⟨_, _, rfl, _, _, rfl, rfl, rfl, ?_⟩
      refine ⟨_, rfl, _, rfl, _, rfl, p.1, rfl, by omega, ?_⟩
      refine ⟨_, rfl, _, rfl, _, rfl, m, rfl, by omega, rfl, _, rfl, ?_⟩
      have et := bk_take (s := s) (h := m) ep
      show if decide (V.str (fw s p.1) = V.str (fw s m)) = true then _ else _
      by_cases hb : fw s p.1 = fw s m
      · rw [decide_eq_true (show V.str (fw s p.1) = V.str (fw s m) by rw [hb])]
        rw [if_pos hb] at et
        refine iteT ?_
        have hh := has_last (p := (bw s p.1, p.2)) (et ▸ nd_bk hsn (nd_take hnd (i + 1)) (lev_take hl (i + 1)))
        refine ⟨_, rfl, _, rfl, _, rfl, p.1, rfl, by omega, _, rfl, _, Sum.inr (bw s p.1), rfl, by rw [upd_ne nt]; exact p1, by rw [kv_len]; have := bk_len s m (l.take i); rw [List.length_take] at this; omega, ?_, ?_, ?_⟩
        · rw [upd_same, putK_kv, et, put_last hh]
        · intro b o e n
          rw [upd_ne (ne_of_none e hB0), upd_ne (ne_of_none (p2 b o e n) ht)]
          exact p2 b o e n
        · rw [upd_ne nB.symm, upd_ne ndt]
          exact p3
      · rw [decide_eq_false (show ¬ V.str (fw s p.1) = V.str (fw s m) from fun z => hb (by injection z))]
        rw [if_neg hb] at et
        refine iteF ?_
        refine ⟨?_, ?_, ?_⟩
        · rw [upd_ne nt, et]
          exact p1
        · intro b o e n
          rw [upd_ne (ne_of_none (p2 b o e n) ht)]
          exact p2 b o e n
        · rw [upd_ne ndt]
          exact p3
    rintro H2 ⟨p1, p2, p3⟩
    rw [kv_len, List.take_length] at p1
    refine ⟨p3, ?_⟩
    have s2 := unlockT hd1 p2
    have eB : (upd H2 d (.dK (kv l))) B0 = some (.dK (kv (bkT s m l))) := by
      rw [upd_ne nB]
      exact p1
    generalize upd H2 d (.dK (kv l)) = G2 at s2 eB ⊢
    refine ⟨_, rfl, _, rfl, by show 2 ≤ sizeLine; omega, fun t ht => ?_⟩
    have s3 := same_upd (o := .tup [.ref F0, .ref B0]) ht
    exact q _ F0 B0 t ((s1.trans s2).trans s3) hF0 (s1.free hB0) ((s1.trans s2).free ht) (s3 _ _ (s2 _ _ eF)) (s3 _ _ eB) (ne_of_none eF hB0) upd_same
end
end Fp

set_option Elab.async false
set_option linter.all false
set_option maxRecDepth 100000
set_option maxHeartbeats 4000000
namespace Fp
open PySem PySem.Spec PyProof.Rows L2
section
variable {P : Program} {w : World} {K : PySem.W.Frag} {mg : Str → Option Value} {base : Heap}
def spCrossOf : Sp := fun vs H Q _ => ∃ (d : Addr) (s n m k : Nat) (c : Int) (l : Tb), vs = [.ref d, .int s, .int c] ∧ H d = some (.dK (kv l)) ∧ isCk c ∧ VT c m k l ∧ l ≠ [] ∧ Lev n l ∧ s ≤ n ∧ n ≤ 1000 ∧ k ≤ 1000 ∧
  (crossOf c s l = none → ∀ H', Same H H' → Q .non H') ∧ ∀ a b d' e, crossOf c s l = some (a, b, d', e) → ∀ H' t, Same H H' → H t = none → H' t = some (.tup [.str a, .str b, .str d', .str e]) → Q (.ref t) H'
abbrev nCrossOf : List Str := ["table", "size", "clock", "head", "fronts", "backs", "word", "number", "across", "lacking", "start", "end"]
theorem sc_crossOf : FnScope nCrossOf ["table", "size", "clock"] (defScope s_crossing_of) := ⟨rfl, rfl, rfl, by decide +kernel, rfl, by decide +kernel, by decide +kernel⟩
theorem ok_crossOf (T : Top K mg) : Ok P w K mg base 6 "crossing_of" ["table", "size", "clock"] spCrossOf := by
  obtain ⟨fd, F⟩ := fn_crossing_of T
  refine ⟨⟨fd, ?_, F.bindsN fun _ _ _ _ _ _ us hl => match us, hl with | [_, _, _], _ => rfl⟩, g_crossing_of T, F.kp⟩
  refine F.ok sc_crossOf (fun vs H Q E h => ?_) (fun cdv A outer s H vs Q E hr h => ?_)
  · obtain ⟨d, s, n, m, k, c, l, rfl, _⟩ := h
    rfl
  · obtain ⟨d, s, n, m, k, c, l, rfl, hd, hck, v, hne, hl, hsn, hn, hk, qn, qs⟩ := h
    have nd := sc_crossOf.nd
    have hu := hu_of hr
    have hs : sizeLine = 16777216 := sizeLine_eq
    have hr4 : Room 4 _ := hr.mono (by decide)
    obtain ⟨hc2, hc7⟩ := ck_range hck
    refine ⟨_, PSs.nox (pss_cons (ps_set (i := 3) nd rfl (Or.inl rfl) (pc (ok_firstW T) hr4 (pa_cons (pv 0) pa_nil)))
      (pss_cons (ps_asg (pc (ok_lines T) hr (pa_cons (pv 0) (pa_cons (pv 1) pa_nil))) (pg_tup rfl (pgs_cons (pg_name (i := 4) nd rfl (Or.inl rfl)) (pgs_cons (pg_name (i := 5) nd rfl (Or.inr rfl)) pgs_nil))))
      (pss_cons (ps_lock (ps_for PassesOwn.never rfl (pi_items (pv 0)) (pg_tup rfl (pgs_cons (pg_name (i := 6) nd rfl (Or.inl rfl)) (pgs_cons (pg_name (i := 7) nd rfl (Or.inl rfl)) pgs_nil)))
        (pss_cons (ps_set (i := 8) nd rfl (Or.inl rfl) (pe_op op_mul (pe_dget2 hu (pv 4) (pe_slice sl_str (pv 6) po_none (po_some (pv 1))) pe_int ⟨rfl, rfl, rfl, rfl⟩) (pe_dget2 hu (pv 5) (pe_slice sl_str (pv 6) (po_some (pv 1)) po_none) pe_int ⟨rfl, rfl, rfl, rfl⟩)))
        (pss_one (ps_if (pt_cmpR op_ne (pe_op op_mod (pe_op op_sub (pe_op op_mul (pe_dget hu (pv 0) (pv 3) (fun _ _ => rfl)) (pv 7)) (pv 8)) (pv 2)) pe_int (nomark _))
          (pss_one (ps_ret (pe_tup (pa_cons (pe_slice sl_str (pv 3) po_none (po_some (pv 1))) (pa_cons (pe_slice sl_str (pv 6) po_none (po_some (pv 1))) (pa_cons (pe_slice sl_str (pv 3) (po_some (pv 1)) po_none) (pa_cons (pe_slice sl_str (pv 6) (po_some (pv 1)) po_none) pa_nil))))))) pss_nil)))))
      (pss_cons (ps_if (pt_cmpR op_eq (pe_callB call_lenD (by rfl) (f_len T) PySem.boot_len (pa_cons (pv 0) pa_nil)) (pe_op op_mul (pe_callB call_lenD (by rfl) (f_len T) PySem.boot_len (pa_cons (pv 4) pa_nil)) (pe_callB call_lenD (by rfl) (f_len T) PySem.boot_len (pa_cons (pv 5) pa_nil))) (nomark _)) (pss_one (ps_ret pe_non)) pss_nil)
      (pss_cons (ps_lock (ps_lock (ps_setLc2 (i := 9) (own := [("start", 10), ("end", 11)]) (vs1 := [11]) (g := gName 10) (g1 := gName 11) (tt := tYes) (by rfl) nd rfl rfl (sw_true rfl rfl rfl (by decide +kernel)) (pi_keys (pv 4)) (blkOk_by (N := nCrossOf) (sc := defScope s_crossing_of) (by decide +kernel)) (by decide)
        (fun _ _ _ _ _ => pg_name (i := 10) nd rfl (Or.inl rfl)) (fun _ _ _ _ _ => pts_nil)
        (fun _ _ _ _ _ => by exact pi_keys (pv 5)) (fun _ _ _ _ _ => pg_name (i := 11) nd rfl (Or.inl rfl)) (fun _ _ _ _ _ => by exact pts_one (pt_cmp (pc_dnotin hu (pe_op op_add_str (pv 10) (pv 11)) (pv 0)) rfl))
        (fun _ _ _ _ _ => by exact pe_tup (pa_cons (pv 10) (pa_cons (pv 11) pa_nil))))))
      (pss_one (ps_ret (pe_tup (pa_cons (pe_slice sl_str (pv 3) po_none (po_some (pv 1))) (pa_cons (pe_ix ix_tup (pe_ix ix_list (pv 9) pe_int (fun _ _ => rfl)) pe_int (fun _ _ => rfl)) (pa_cons (pe_slice sl_str (pv 3) (po_some (pv 1)) po_none) (pa_cons (pe_ix ix_tup (pe_ix ix_list (pv 9) pe_int (fun _ _ => rfl)) pe_int (fun _ _ => rfl)) pa_nil)))))))))))), ?_⟩
    obtain ⟨hh1, hh2⟩ := hd_first hne
    have hhl := hd_len hne hl
    have hll : l.length ≤ 1000 := Nat.le_trans v.ln hk
    have hnm := num_pos v hh1
    have hfm : ∀ m ∈ l.map (·.1), (∀ y ∈ l.map (·.1), leR m y = true) → m = hdW l := fun m hm hmin => leR_anti (hmin _ hh1) (hh2 _ hm)
    refine ⟨_, rfl, d, kv l, l.map (·.1), rfl, hd, kv_keys' l, by simpa using hne, fun x hx => ?_, fun m0 hm0 hmin => ?_⟩
    · obtain ⟨p, hp, rfl⟩ := List.mem_map.mp hx
      rw [hl p hp]
      omega
    obtain rfl := hfm m0 hm0 hmin
    clear hmin hm0
    refine ⟨_, rfl, _, rfl, d, s, n, l, rfl, hd, v.nd, hne, hl, hsn, hn, by omega, fun H1 F B t1 s1 nF nB nt1 eF eB nFB et1 => ?_⟩
    refine ⟨t1, _, rfl, .inl (.inl et1), rfl, ?_⟩
    refine ⟨_, _, rfl, _, _, rfl, rfl, ?_⟩
    have vF := vt_fr (h := hdW l) hsn v hl
    have vB := vt_bk (h := hdW l) hsn v hl
    have ed1 := s1 _ _ hd
    have ndF : d ≠ F := ne_of_none hd nF
    have ndB : d ≠ B := ne_of_none hd nB
    refine ⟨d, .dK (kv l), ed1, trivial, fun od => ?_⟩
    refine ⟨_, rfl, d, od, kv l, rfl, upd_same, ?_⟩
    refine for_it walk_items (fun i σ H' => (∃ v1 v2 v3, σ = [some (.ref d), some (.int s), some (.int c), some (.str (hdW l)), some (.ref F), some (.ref B), v1, v2, v3, none, none, none]) ∧ But d H1 H' ∧ H' d = some (.frz od (.dK (kv l))) ∧ ∀ p ∈ l.take i, odd c s l p = false)
      ⟨⟨none, none, none, rfl⟩, (fun b o e n => by rw [upd_ne n]; exact e), upd_same, fun p hp => by simp at hp⟩ (fun i σ H' _ hP => hP.2.2.1) ?_ ?_
    · rintro i x σ G1 G2 hi ⟨⟨v1, v2, v3, rfl⟩, p2, p3, p4⟩ ⟨t, k', v', rfl, ht, rfl, e1, e2⟩
      obtain ⟨p, ep, rfl, rfl⟩ := kv_item e1 e2
      have hpm := List.mem_of_getElem? ep
      have hpl := hl p hpm
      have hpn := v.nu p hpm
      have ndt : d ≠ t := ne_of_none p3 ht
      have gF : (upd G1 t (.tup [.str p.1, .int p.2])) F = some (.dK (kv (frT s (hdW l) l))) := by
        have := p2 _ _ eF ndF.symm
        rw [upd_ne (ne_of_none this ht)]
        exact this
      have gB : (upd G1 t (.tup [.str p.1, .int p.2])) B = some (.dK (kv (bkT s (hdW l) l))) := by
        have := p2 _ _ eB ndB.symm
        rw [upd_ne (ne_of_none this ht)]
        exact this
      have gd : (upd G1 t (.tup [.str p.1, .int p.2])) d = some (.frz od (.dK (kv l))) := by
        rw [upd_ne ndt]
        exact p3
      refine ⟨t, _, rfl, .inl (.inl upd_same), rfl, ?_⟩
      refine ⟨_, _, rfl, _, _, rfl, rfl, ?_⟩
      have s2 : But d H1 (upd G1 t (.tup [.str p.1, .int p.2])) := fun b o e n => by
        have := p2 b o e n
        rw [upd_ne (ne_of_none this ht)]
        exact this
      generalize upd G1 t (.tup [.str p.1, .int p.2]) = G at gF gB gd s2 ⊢
      have hsp : s ≤ p.1.length := by omega
      have nf : 0 ≤ num (frT s (hdW l) l) (fw s p.1) ∧ num (frT s (hdW l) l) (fw s p.1) < c := num_rg (by omega) (fun q hq => ⟨by have := (vF.nu q hq).1; omega, (vF.nu q hq).2⟩) _
      have nb : 0 ≤ num (bkT s (hdW l) l) (bw s p.1) ∧ num (bkT s (hdW l) l) (bw s p.1) < c := num_rg (by omega) (fun q hq => ⟨by have := (vB.nu q hq).1; omega, (vB.nu q hq).2⟩) _
      refine ⟨_, rfl, F, rfl, .inl ⟨_, .inl gF⟩, _, rfl, _, rfl, _, rfl, p.1, rfl, by omega, _, DGet.k (k := Sum.inr (fw s p.1)) gF, ?_⟩
      rw [num_eq]
      refine ⟨_, rfl, B, rfl, .inl ⟨_, .inl gB⟩, _, rfl, _, rfl, _, rfl, p.1, rfl, by omega, _, DGet.k (k := Sum.inr (bw s p.1)) gB, ?_⟩
      rw [num_eq]
      refine ⟨_, _, rfl, rfl, .inl ⟨by omega, by omega⟩, ?_⟩
      refine ⟨_, rfl, _, rfl, d, .int (num l (hdW l)), rfl, .inl ⟨kv l, Sum.inr (hdW l), .inr ⟨od, gd⟩, rfl, by rw [valV_yes (has_iff.mpr hh1)]⟩, ?_⟩
      refine ⟨_, rfl, _, _, rfl, rfl, .inl ⟨by omega, by omega⟩, ?_⟩
      refine ⟨_, rfl, _, _, rfl, rfl, _, rfl, _, _, rfl, rfl, by omega, rfl, _, rfl, ?_⟩
      have ho : odd c s l p = decide ((num l (hdW l) * p.2 - num (frT s (hdW l) l) (fw s p.1) * num (bkT s (hdW l) l) (bw s p.1)) % c ≠ 0) := rfl
      show if (!decide (V.int ((num l (hdW l) * p.2 - num (frT s (hdW l) l) (fw s p.1) * num (bkT s (hdW l) l) (bw s p.1)) % c) = V.int 0)) = true then _ else _
      by_cases hz : (num l (hdW l) * p.2 - num (frT s (hdW l) l) (fw s p.1) * num (bkT s (hdW l) l) (bw s p.1)) % c = 0
      · rw [hz, decide_eq_true (rfl : V.int 0 = V.int 0)]
        rw [hz] at ho
        refine iteF ?_
        refine ⟨⟨_, _, _, rfl⟩, s2, gd, fun q hq => ?_⟩
        rw [List.take_add_one, ep] at hq
        rcases List.mem_append.mp hq with hq | hq
        · exact p4 q hq
        · have : q = p := by simpa using hq
          rw [this, ho]
          rfl
      · rw [decide_eq_false (fun z : V.int _ = V.int 0 => hz (by injection z))]
        have ho' : odd c s l p = true := by
          rw [ho]
          exact decide_eq_true hz
        refine iteT ?_
        have hfind : l.find? (odd c s l) = some p := by
          rw [List.find?_eq_some_iff_getElem]
          obtain ⟨hi', e'⟩ := List.getElem?_eq_some_iff.mp ep
          refine ⟨ho', i, hi', e', fun j hj => ?_⟩
          have : odd c s l l[j] = false := p4 _ (List.mem_take_iff_getElem.mpr ⟨j, by omega, rfl⟩)
          rw [this]
          rfl
        have hc : crossOf c s l = some (fw s (hdW l), fw s p.1, bw s (hdW l), bw s p.1) := by
          unfold crossOf
          rw [hfind]
        refine ⟨_, rfl, _, rfl, _, rfl, hdW l, rfl, by omega, ?_⟩
        refine ⟨_, rfl, _, rfl, _, rfl, p.1, rfl, by omega, ?_⟩
        refine ⟨_, rfl, _, rfl, _, rfl, hdW l, rfl, by omega, ?_⟩
        refine ⟨_, rfl, _, rfl, _, rfl, p.1, rfl, by omega, ?_⟩
        refine ⟨by show 4 ≤ sizeLine; omega, fun t ht => ?_⟩
        have ndt : d ≠ t := ne_of_none gd ht
        refine ⟨by rw [upd_ne ndt]; exact gd, ?_⟩
        refine qs _ _ _ _ hc _ t (s1.trans (unlockT ed1 (fun b o e n => ?_))) (s1.free ?_) ?_
        · have := s2 b o e n
          rw [upd_ne (ne_of_none this ht)]
          exact this
        · cases z : H1 t with
          | none => rfl
          | some u => rw [s2 t u z ndt.symm] at ht; cases ht
        · rw [upd_ne ndt.symm, upd_same]
          rfl
    rintro σ G ⟨⟨v1, v2, v3, rfl⟩, p2, p3, p4⟩
    rw [kv_len, List.take_length] at p4
    have hfind : l.find? (odd c s l) = none := List.find?_eq_none.mpr fun p hp => by rw [p4 p hp]; simp
    refine ⟨p3, ?_⟩
    have s2 := unlockT ed1 p2
    have ed2 : (upd G d (.dK (kv l))) d = some (.dK (kv l)) := upd_same
    generalize upd G d (.dK (kv l)) = G1 at s2 ed2 ⊢
    have gF := s2 _ _ eF
    have gB := s2 _ _ eB
    have lF : (frT s (hdW l) l).length ≤ 1000 := Nat.le_trans (fr_len _ _ _) hll
    have lB : (bkT s (hdW l) l).length ≤ 1000 := Nat.le_trans (bk_len _ _ _) hll
    refine ⟨_, rfl, d, _, rfl, ed2, _, rfl, F, _, rfl, gF, _, rfl, B, _, rfl, gB, _, _, rfl, rfl, .inl ⟨by rw [kv_len]; omega, by rw [kv_len]; omega⟩, rfl, _, rfl, ?_⟩
    rw [kv_len, kv_len, kv_len]
    by_cases hlen : l.length = (frT s (hdW l) l).length * (bkT s (hdW l) l).length
    · rw [decide_eq_true (show V.int (l.length : Int) = V.int (((frT s (hdW l) l).length : Int) * ((bkT s (hdW l) l).length : Int)) by rw [hlen, Int.natCast_mul])]
      refine iteT (qn ?_ _ (s1.trans s2))
      unfold crossOf
      rw [hfind]
      exact if_pos hlen
    rw [decide_eq_false (fun z : V.int (l.length : Int) = V.int (((frT s (hdW l) l).length : Int) * ((bkT s (hdW l) l).length : Int)) => hlen (by injection z with z; rw [← Int.natCast_mul] at z; exact Int.ofNat.inj z))]
    refine iteF ?_
    have vF' := vF.nd
    have keyF : ∀ q ∈ frT s (hdW l) l, q.1.length ≤ 1000 := fun q hq => by have := (vF.wd q hq).2; omega
    have keyB : ∀ q ∈ bkT s (hdW l) l, q.1.length ≤ 1000 := fun q hq => by have := (vB.wd q hq).2; omega
    have hprod : (frT s (hdW l) l).length * (bkT s (hdW l) l).length ≤ 1000000 := Nat.mul_le_mul lF lB
    have hcr : crossOf c s l = match lackT s l with
      | [] => none
      | z :: _ => some (fw s (hdW l), z.1, bw s (hdW l), z.2) := by
      unfold crossOf
      rw [hfind]
      exact if_neg hlen
    have hlk : lackT s l = ((frT s (hdW l) l).flatMap fun p => (bkT s (hdW l) l).map fun q => (p.1, q.1)).filter fun z => !has l (z.1 ++ z.2) := rfl
    have hnil : lackT s l ≠ [] := fun z => by
      rw [z] at hcr
      exact hlen (cross_none hck v hl hne hsn hcr).2
    generalize frT s (hdW l) l = fr at *
    generalize bkT s (hdW l) l = bk at *
    refine ⟨F, .dK (kv fr), gF, trivial, fun oF => ?_⟩
    refine ⟨B, .dK (kv bk), by rw [upd_ne nFB.symm]; exact gB, trivial, fun oB => ?_⟩
    refine ⟨_, rfl, F, oF, rfl, .inl ⟨kv fr, by rw [upd_ne nFB]; exact upd_same, fun D hD => ?_⟩⟩
    have nDB : D ≠ B := fun e => by
      rw [e, upd_same] at hD
      cases hD
    have nDF : D ≠ F := fun e => by
      rw [e, upd_ne nFB, upd_same] at hD
      cases hD
    have hD0 : G1 D = none := by
      rw [upd_ne nDB, upd_ne nDF] at hD
      exact hD
    have nDd : D ≠ d := (ne_of_none ed2 hD0).symm
    let cut (i : Nat) : List (Str × Str) := ((fr.take i).flatMap fun p => bk.map fun q => (p.1, q.1)).filter fun z => !has l (z.1 ++ z.2)
    let Pv (xs : List (Str × Str)) (m : Nat) (H' : Hp) : Prop := ∃ ps : List Addr, H' D = some (.lst (ps.map V.ref)) ∧ ps.length ≤ m ∧ Paired (fun p (z : Str × Str) => H' p = some (.tup [.str z.1, .str z.2])) ps xs ∧ (∀ b o, G1 b = some o → b ≠ F → b ≠ B → H' b = some o) ∧ H' F = some (.frz oF (.dK (kv fr))) ∧ H' B = some (.frz oB (.dK (kv bk)))
    refine in_it walk_keys (fun i H' => Pv (cut i) (i * bk.length) H') ⟨[], upd_same, Nat.zero_le _, .nil, (fun b o y n1 n2 => by
        rw [upd_ne (ne_of_none y hD0), upd_ne n2, upd_ne n1]
        exact y), (by rw [upd_ne nDF.symm, upd_ne nFB]; exact upd_same), (by rw [upd_ne nDB.symm]; exact upd_same)⟩ (fun i H' _ hP => hP.choose_spec.2.2.2.2.1) ?_ ?_
    · rintro i x Ha Hb hi ⟨ps, r1, r2, r3, r4, r5, r6⟩ ⟨rfl, kk, vv, ee, rfl⟩
      obtain ⟨p, ep, rfl, rfl⟩ := kv_at ee
      have hp := List.mem_of_getElem? ep
      have hpl := keyF p hp
      rw [kv_len] at hi
      refine ⟨rfl, ?_⟩
      refine ⟨_, rfl, B, oB, rfl, .inl ⟨kv bk, r6, ?_⟩⟩
      refine in_it walk_keys (fun j H' => Pv (cut i ++ ((bk.take j).map fun q => (p.1, q.1)).filter fun z => !has l (z.1 ++ z.2)) (i * bk.length + j) H') ⟨ps, r1, r2, by simpa using r3, r4, r5, r6⟩ (fun j H' _ hP => hP.choose_spec.2.2.2.2.2) ?_ ?_
      · rintro j y Hc Hd hj ⟨ps', q1, q2, q3, q4, q5, q6⟩ ⟨rfl, kk, vv, ee, rfl⟩
        obtain ⟨u, eu, rfl, rfl⟩ := kv_at ee
        have hu' := List.mem_of_getElem? eu
        have hul := keyB u hu'
        rw [kv_len] at hj
        refine ⟨rfl, ?_⟩
        have gd : Hd d = some (.dK (kv l)) := q4 _ _ ed2 ndF ndB
        refine ⟨_, rfl, _, rfl, _, _, rfl, rfl, by omega, _, rfl, d, _, rfl, DGet.k (k := Sum.inr (p.1 ++ u.1)) gd, _, rfl, ?_⟩
        have hbound : i * bk.length + j < 1000000 := by
          have h1 : (i + 1) * bk.length ≤ fr.length * bk.length := Nat.mul_le_mul_right _ hi
          rw [Nat.succ_mul] at h1
          omega
        have etake : ((bk.take (j + 1)).map fun q => (p.1, q.1)) = ((bk.take j).map fun q => (p.1, q.1)) ++ [(p.1, u.1)] := by
          rw [List.take_add_one, eu, List.map_append]
          rfl
        cases hhas : has l (p.1 ++ u.1) with
        | true =>
          rw [valV_yes hhas]
          refine iteF ?_
          have e1 : [(p.1, u.1)].filter (fun z => !has l (z.1 ++ z.2)) = [] := List.filter_cons_of_neg (by simp [hhas])
          refine ⟨ps', q1, by omega, ?_, q4, q5, q6⟩
          rw [etake, List.filter_append, e1, List.append_nil]
          exact q3
        | false =>
          rw [(valV_no hhas).1]
          refine iteT ?_
          have e1 : [(p.1, u.1)].filter (fun z => !has l (z.1 ++ z.2)) = [(p.1, u.1)] := List.filter_cons_of_pos (by simp [hhas])
          refine ⟨_, rfl, _, rfl, by show 2 ≤ sizeLine; omega, fun t ht => ?_⟩
          have nDt : D ≠ t := ne_of_none q1 ht
          refine ⟨ps'.map V.ref, by rw [upd_ne nDt]; exact q1, by rw [List.length_map]; omega, ps' ++ [t], by rw [upd_same, List.map_append]; rfl, by rw [List.length_append]; show ps'.length + 1 ≤ _; omega, ?_, ?_, ?_, ?_⟩
          · rw [etake, List.filter_append, e1, ← List.append_assoc]
            refine Paired.snoc (Paired.mapP q3 fun a z e => ?_) ?_
            · rw [upd_ne (ne_of e q1 (by intro y; cases y)), upd_ne (ne_of_none e ht)]
              exact e
            · rw [upd_ne nDt.symm]
              exact upd_same
          · intro b o y n1 n2
            rw [upd_ne (ne_of_none y hD0), upd_ne (ne_of_none (q4 b o y n1 n2) ht)]
            exact q4 b o y n1 n2
          · rw [upd_ne nDF.symm, upd_ne (ne_of_none q5 ht)]
            exact q5
          · rw [upd_ne nDB.symm, upd_ne (ne_of_none q6 ht)]
            exact q6
      · rintro Hc ⟨ps', q1, q2, q3, q4, q5, q6⟩
        rw [kv_len] at q2 q3
        refine ⟨ps', q1, by rw [Nat.succ_mul]; exact q2, ?_, q4, q5, q6⟩
        rw [List.take_length] at q3
        have e1 : cut (i + 1) = cut i ++ (bk.map fun q => (p.1, q.1)).filter fun z => !has l (z.1 ++ z.2) := by
          show ((fr.take (i + 1)).flatMap fun p => bk.map fun q => (p.1, q.1)).filter _ = ((fr.take i).flatMap fun p => bk.map fun q => (p.1, q.1)).filter _ ++ _
          rw [List.take_add_one, ep, List.flatMap_append, List.filter_append]
          simp
        rw [e1]
        exact q3
    rintro Hc ⟨ps, r1, r2, r3, r4, r5, r6⟩
    rw [kv_len] at r2 r3
    have e1 : cut fr.length = lackT s l := by
      show ((fr.take fr.length).flatMap fun p => bk.map fun q => (p.1, q.1)).filter _ = _
      rw [List.take_length, hlk]
    rw [e1] at r3
    refine ⟨r6, ?_⟩
    refine ⟨by rw [upd_ne nFB]; exact r5, ?_⟩
    cases hL : lackT s l with
    | nil => exact absurd hL hnil
    | cons z zs =>
      rw [hL] at r3 hcr
      cases r3 with
      | @cons t0 _ ps0 _ et0 r3 =>
      have s3 : Same G1 (upd (upd Hc B (.dK (kv bk))) F (.dK (kv fr))) := fun b o e => by
        by_cases n1 : b = F
        · rw [n1, upd_same, ← e, n1, gF]
        · rw [upd_ne n1]
          by_cases n2 : b = B
          · rw [n2, upd_same, ← e, n2, gB]
          · rw [upd_ne n2]
            exact r4 b o e n1 n2
      have eD : (upd (upd Hc B (.dK (kv bk))) F (.dK (kv fr))) D = some (.lst ((t0 :: ps0).map V.ref)) := by
        rw [upd_ne nDF, upd_ne nDB]
        exact r1
      have e0 : (upd (upd Hc B (.dK (kv bk))) F (.dK (kv fr))) t0 = some (.tup [.str z.1, .str z.2]) := by
        rw [upd_ne (ne_of et0 r5 (by intro y; cases y)), upd_ne (ne_of et0 r6 (by intro y; cases y))]
        exact et0
      generalize upd (upd Hc B (.dK (kv bk))) F (.dK (kv fr)) = G2 at s3 eD e0 ⊢
      refine ⟨_, rfl, _, rfl, _, rfl, hdW l, rfl, by omega, ?_⟩
      refine ⟨_, rfl, D, _, 0, _, rfl, rfl, SqL.of eD, atI_nat (j := 0) rfl, t0, _, 0, _, rfl, rfl, .inl (.inl e0), atI_nat (j := 0) rfl, ?_⟩
      refine ⟨_, rfl, _, rfl, _, rfl, hdW l, rfl, by omega, ?_⟩
      refine ⟨_, rfl, D, _, 0, _, rfl, rfl, SqL.of eD, atI_nat (j := 0) rfl, t0, _, 1, _, rfl, rfl, .inl (.inl e0), atI_nat (j := 1) rfl, ?_⟩
      refine ⟨by show 4 ≤ sizeLine; omega, fun t ht => ?_⟩
      have s4 := same_upd (o := .tup [.str (fw s (hdW l)), .str z.1, .str (bw s (hdW l)), .str z.2]) ht
      exact qs _ _ _ _ hcr _ t (((s1.trans s2).trans s3).trans s4) (((s1.trans s2).trans s3).free ht) upd_same
end
end Fp

set_option Elab.async false
set_option linter.all false
set_option maxRecDepth 100000
set_option maxHeartbeats 4000000
namespace Fp
open PySem PySem.Spec PyProof.Rows L2
theorem vt_scl {c f : Int} {m k : Nat} {l : Tb} (hc : 0 < c) (h : VT c m k l) : VT c m k (tidyM c (scl f l)) ∧ Lk c (tidyM c (scl f l)) (scl f l) := by
  have n1 := scl_nd (f := f) h.nd
  refine ⟨(vt_tidy hc n1 fun p hp => ?_).mono (Nat.le_refl _) (by rw [scl_len]; exact h.ln), lk_tidy n1⟩
  unfold scl at hp
  obtain ⟨q, hq, rfl⟩ := List.mem_map.mp hp
  exact h.wd q hq
theorem vt_again {c : Int} {m k : Nat} {l : Tb} (hc : 0 < c) (h : VT c m k l) : VT c m k (tidyM c l) ∧ Lk c (tidyM c l) l :=
  ⟨(vt_tidy hc h.nd h.wd).mono (Nat.le_refl _) h.ln, lk_tidy h.nd⟩
theorem lev_canon {n : Nat} {l : Tb} (h : Lev n l) : Lev n (canon l) := fun p hp => by
  have : p.1 ∈ (canon l).map (·.1) := List.mem_map.mpr ⟨p, hp, rfl⟩
  rw [canon_keys] at this
  obtain ⟨q, hq, e⟩ := List.mem_map.mp (ordW_mem.mp this)
  rw [← e]
  exact h q hq
theorem canon_nil {l : Tb} (h : l ≠ []) : canon l ≠ [] := fun z => by
  have e : (canon l).length = l.length := by
    unfold canon
    rw [List.length_map, ordW_len]
  rw [z] at e
  exact h (List.eq_nil_of_length_eq_zero e.symm)
/-! ### what may be judged to be a crossing -/
def NotT (H : Hp) (x : V) : Prop := x = .non ∨ (∃ s, x = .str s) ∨ ∃ a, x = .ref a ∧ ((∃ xs, H a = some (.lst xs)) ∨ ∃ kvs, H a = some (.dK kvs))
def ThingV (H : Hp) (x : V) (o : Option (List V)) : Prop := (o = none ∧ NotT H x) ∨ ∃ a ys, o = some ys ∧ x = .ref a ∧ H a = some (.tup ys) ∧ ys.length ≤ 100 ∧ ∀ y ∈ ys, OddV H y
theorem NotT.same {H H' : Hp} {x : V} (h : NotT H x) (k : Same H H') : NotT H' x := by
  rcases h with h | h | ⟨a, rfl, ⟨xs, h⟩ | ⟨xs, h⟩⟩
  · exact .inl h
  · exact .inr (.inl h)
  · exact .inr (.inr ⟨a, rfl, .inl ⟨xs, k _ _ h⟩⟩)
  · exact .inr (.inr ⟨a, rfl, .inr ⟨xs, k _ _ h⟩⟩)
theorem ThingV.same {H H' : Hp} {x : V} {o : Option (List V)} (h : ThingV H x o) (k : Same H H') : ThingV H' x o := by
  rcases h with ⟨e, h⟩ | ⟨a, ys, e, rfl, h1, h2, h3⟩
  · exact .inl ⟨e, h.same k⟩
  · exact .inr ⟨a, ys, e, rfl, k _ _ h1, h2, fun y hy => (h3 y hy).same k⟩
theorem NotT.ty {K : PySem.W.Frag} {H : Hp} {x : V} (h : NotT H x) : ∃ t, TyX K H x t ∧ PySem.W.kitOne K t (.type "tuple") = some false := by
  rcases h with rfl | ⟨s, rfl⟩ | ⟨a, rfl, ⟨xs, h⟩ | ⟨xs, h⟩⟩
  · exact ⟨_, .base .non, kit_ty (r := false) (by decide +kernel)⟩
  · exact ⟨_, .base (.str s), kit_ty (r := false) (by decide +kernel)⟩
  · exact ⟨_, .base (.lst h), kit_ty (r := false) (by decide +kernel)⟩
  · exact ⟨_, .base (.dK h), kit_ty (r := false) (by decide +kernel)⟩
def cross4 (c : Int) (l : Tb) (s : Nat) (a b d e : Str) : Bool := decide (a.length = s) && (decide (b.length = s) && decide ((num l (a ++ d) * num l (b ++ e) - num l (a ++ e) * num l (b ++ d)) % c ≠ 0))
def crossB (c : Int) (l : Tb) (s : Nat) : Option (List V) → Bool
  | some [.str a, .str b, .str d, .str e] => (xyzB a && (xyzB b && (xyzB d && xyzB e))) && cross4 c l s a b d e
  | _ => false
theorem cross_no {c : Int} {l : Tb} {s : Nat} {ys : List V} (h : ys.length ≠ 4 ∨ ys.all isWB = false) : crossB c l s (some ys) = false := by
  unfold crossB
  split
  · rename_i a b d e hh
    have := Option.some.inj hh
    subst this
    rcases h with h | h
    · exact absurd rfl h
    · have e1 : (xyzB a && (xyzB b && (xyzB d && xyzB e))) = false := by
        rw [← h]
        show _ = (isWB (.str a) && (isWB (.str b) && (isWB (.str d) && (isWB (.str e) && true))))
        simp [isWB]
      rw [e1]
      rfl
  · rfl
theorem odd_word {H : Hp} {y : V} (v : OddV H y) (h : isWB y = true) : ∃ s, y = .str s ∧ xyz s ∧ s.length ≤ 1000 := by
  rcases v with ⟨s, rfl, hs⟩ | rfl | ⟨b, rfl⟩ | ⟨i, rfl⟩ | ⟨a, xs, rfl, _⟩
  · exact ⟨s, rfl, xyzB_iff.mp h, hs.len⟩
  all_goals (exact absurd h (by intro z; cases z))
theorem four_words {H : Hp} {ys : List V} (hl : ys.length = 4) (ho : ∀ y ∈ ys, OddV H y) (ha : ys.all isWB = true) : ∃ a b d e : Str, ys = [.str a, .str b, .str d, .str e] ∧ (xyz a ∧ a.length ≤ 1000) ∧ (xyz b ∧ b.length ≤ 1000) ∧ (xyz d ∧ d.length ≤ 1000) ∧ (xyz e ∧ e.length ≤ 1000) := by
  match ys, hl with
  | [y1, y2, y3, y4], _ =>
    have h := List.all_eq_true.mp ha
    obtain ⟨a, rfl, h1⟩ := odd_word (ho y1 (by simp)) (h y1 (by simp))
    obtain ⟨b, rfl, h2⟩ := odd_word (ho y2 (by simp)) (h y2 (by simp))
    obtain ⟨d, rfl, h3⟩ := odd_word (ho y3 (by simp)) (h y3 (by simp))
    obtain ⟨e, rfl, h4⟩ := odd_word (ho y4 (by simp)) (h y4 (by simp))
    exact ⟨a, b, d, e, rfl, h1, h2, h3, h4⟩
section
variable {P : Program} {w : World} {K : PySem.W.Frag} {mg : Str → Option Value} {base : Heap}
/-! ### crossing -/
def CutPre (K : PySem.W.Frag) (H : Hp) (a : Addr) (c : Int) (s n m k : Nat) (l : Tb) : Prop := Bg K H a c m k l ∧ isCk c ∧ l ≠ [] ∧ Lev n l ∧ s ≤ n ∧ n ≤ 1000 ∧ k ≤ 1000
def spCrossing (K : PySem.W.Frag) : Sp := fun vs H Q _ => ∃ (a : Addr) (s n m k : Nat) (c : Int) (l : Tb), vs = [.ref a, .int s] ∧ CutPre K H a c s n m k l ∧
  (crossOf c s (canon l) = none → ∀ H', Same H H' → Q .non H') ∧ ∀ a b d' e, crossOf c s (canon l) = some (a, b, d', e) → ∀ H' t, Same H H' → H t = none → H' t = some (.tup [.str a, .str b, .str d', .str e]) → Q (.ref t) H'
abbrev nBN : List Str := ["bag", "number"]
/-! ### halved, cut -/
def spHalved : Sp := fun vs H Q _ => ∃ (d : Addr) (s n m k : Nat) (c : Int) (l : Tb), vs = [.ref d, .int s, .int c] ∧ H d = some (.dK (kv l)) ∧ isCk c ∧ VT c m k l ∧ l ≠ [] ∧ Lev n l ∧ s ≤ n ∧ n ≤ 1000 ∧ k ≤ 1000 ∧
  (crossOf c s l ≠ none → ∀ H', Same H H' → Q .non H') ∧ (crossOf c s l = none → ∀ H' t F B i, Same H H' → H t = none → H F = none → H B = none → F ≠ B → H' t = some (.tup [.ref F, .ref B]) → (num l (hdW l) * i) % c = 1 → 1 ≤ i → i < c →
    H' F = some (.dK (kv (tidyM c (scl i (frT s (hdW l) l))))) → H' B = some (.dK (kv (bkT s (hdW l) l))) → Q (.ref t) H')
abbrev nHalved : List Str := ["table", "size", "clock", "fronts", "backs"]
theorem sc_halved : FnScope nHalved ["table", "size", "clock"] (defScope s_halved) := ⟨rfl, rfl, rfl, by decide +kernel, rfl, by decide +kernel, by decide +kernel⟩
theorem ok_halved (T : Top K mg) : Ok P w K mg base 7 "halved" ["table", "size", "clock"] spHalved := by
  obtain ⟨fd, F⟩ := fn_halved T
  refine ⟨⟨fd, ?_, F.bindsN fun _ _ _ _ _ _ us hl => match us, hl with | [_, _, _], _ => rfl⟩, g_halved T, F.kp⟩
  refine F.ok sc_halved (fun vs H Q E h => ?_) (fun cdv A outer s H vs Q E hr h => ?_)
  · obtain ⟨d, s, n, m, k, c, l, rfl, _⟩ := h
    rfl
  · obtain ⟨d, s, n, m, k, c, l, rfl, hd, hck, v, hne, hl, hsn, hn, hk, qn, qs⟩ := h
    have nd := sc_halved.nd
    have hu := hu_of hr
    have hs : sizeLine = 16777216 := sizeLine_eq
    have hr1 : Room 1 _ := hr.mono (by decide)
    have hr2 : Room 2 _ := hr.mono (by decide)
    have hr4 : Room 4 _ := hr.mono (by decide)
    have hr5 : Room 5 _ := hr.mono (by decide)
    obtain ⟨hc2, hc7⟩ := ck_range hck
    obtain ⟨hh1, hh2⟩ := hd_first hne
    have hnm := num_pos v hh1
    have hll := v.ln
    refine ⟨_, PSs.nox (pss_cons (ps_if (pt_cmpR op_notN (pc (ok_crossOf T) hr (pa_cons (pv 0) (pa_cons (pv 1) (pa_cons (pv 2) pa_nil)))) pe_non (nomark _)) (pss_one (ps_ret pe_non)) pss_nil)
      (pss_cons (ps_asg (pc (ok_lines T) hr5 (pa_cons (pv 0) (pa_cons (pv 1) pa_nil))) (pg_tup rfl (pgs_cons (pg_name (i := 3) nd rfl (Or.inl rfl)) (pgs_cons (pg_name (i := 4) nd rfl (Or.inl rfl)) pgs_nil))))
      (pss_one (ps_ret (pe_tup (pa_cons (pc (ok_scaled T) hr2 (pa_cons (pv 3) (pa_cons (pc (ok_inverse T) hr1 (pa_cons (pe_dget hu (pv 0) (pc (ok_firstW T) hr4 (pa_cons (pv 0) pa_nil)) (fun _ _ => rfl)) (pa_cons (pv 2) pa_nil))) (pa_cons (pv 2) pa_nil)))) (pa_cons (pv 4) pa_nil))))))), ?_⟩
    refine ⟨_, rfl, _, rfl, _, rfl, d, s, n, m, k, c, l, rfl, hd, hck, v, hne, hl, hsn, hn, hk, fun h H1 s1 => ?_, fun x y z u h H1 t s1 nt et => ?_⟩
    case refine_2 =>
      refine ⟨rfl, _, rfl, ?_⟩
      exact iteT (qn (by rw [h]; intro q; cases q) H1 s1)
    refine ⟨rfl, _, rfl, iteF ?_⟩
    have hd1 := s1 _ _ hd
    refine ⟨_, rfl, _, rfl, d, s, n, l, rfl, hd1, v.nd, hne, hl, hsn, hn, by omega, fun H2 F0 B0 t0 s2 nF nB nt0 eF eB nFB et0 => ?_⟩
    refine ⟨t0, _, rfl, .inl (.inl et0), rfl, ?_⟩
    refine ⟨_, _, rfl, _, _, rfl, rfl, ?_⟩
    have hd2 := s2 _ _ hd1
    have vF := vt_fr (h := hdW l) hsn v hl
    refine ⟨_, rfl, _, rfl, _, rfl, d, kv l, l.map (·.1), rfl, hd2, kv_keys' l, by simpa using hne, fun x hx => ?_, fun m0 hm0 hmin => ?_⟩
    · obtain ⟨p, hp, rfl⟩ := List.mem_map.mp hx
      rw [hl p hp]
      omega
    have em : m0 = hdW l := leR_anti (hmin _ hh1) (hh2 _ hm0)
    subst em
    refine ⟨d, .int (num l (hdW l)), rfl, .inl ⟨kv l, Sum.inr (hdW l), .inl hd2, rfl, by rw [valV_yes (has_iff.mpr hh1)]⟩, ?_⟩
    refine ⟨_, rfl, num l (hdW l), c, rfl, hck, fun i hi0 hic hi => ?_⟩
    obtain ⟨hi1, hi2⟩ := hi (not_dvd hnm.1 hnm.2)
    refine ⟨_, rfl, F0, i, c, _, rfl, by omega, hc7, eF, vF.nd, vF.nu, by have := vF.ln; omega, fun H3 D s3 nD eD => ?_⟩
    refine ⟨_, rfl, by show 2 ≤ sizeLine; omega, fun t ht => ?_⟩
    have s4 := same_upd (o := .tup [.ref D, .ref B0]) ht
    refine qs h _ t D B0 i (((s1.trans s2).trans s3).trans s4) (((s1.trans s2).trans s3).free ht) ((s1.trans s2).free nD) (s1.free nB) (ne_of_none eB nD).symm upd_same hi1 hi2 hic (s4 _ _ eD) (s4 _ _ (s3 _ _ eB))
def spCut (K : PySem.W.Frag) : Sp := fun vs H Q _ => ∃ (a : Addr) (s n m k : Nat) (c : Int) (l : Tb), vs = [.ref a, .int s] ∧ CutPre K H a c s n m k l ∧
  (crossOf c s (canon l) ≠ none → ∀ H', Same H H' → Q .non H') ∧ (crossOf c s (canon l) = none → ∀ H' t x y i u u', Same H H' → H t = none → H' t = some (.tup [.ref x, .ref y]) → (num l (hdW (canon l)) * i) % c = 1 → 1 ≤ i → i < c →
    Bg K H' x c s k u → Lk c u (scl i (frT s (hdW (canon l)) (canon l))) → Bg K H' y c (n - s) k u' → Lk c u' (bkT s (hdW (canon l)) (canon l)) → Q (.ref t) H')
abbrev nCut : List Str := ["bag", "number", "halves"]
end
end Fp

set_option Elab.async false
set_option linter.all false
set_option maxRecDepth 100000
set_option maxHeartbeats 4000000
namespace Fp
open PySem PySem.Spec PyProof.Rows L2
section
variable {P : Program} {w : World} {K : PySem.W.Frag} {mg : Str → Option Value} {base : Heap}
def spMult : Sp := fun vs H Q _ => ∃ (d1 d2 : Addr) (c : Int) (m1 k1 m2 k2 : Nat) (l1 l2 : Tb), vs = [.ref d1, .ref d2, .int c] ∧ 0 < c ∧ c ≤ 7 ∧ d1 ≠ d2 ∧ H d1 = some (.dK (kv l1)) ∧ H d2 = some (.dK (kv l2)) ∧ VT c m1 k1 l1 ∧ VT c m2 k2 l2 ∧ m1 ≤ 1000 ∧ m2 ≤ 1000 ∧ k1 * k2 ≤ 900000 ∧
  ∀ H' D, Same H H' → H D = none → H' D = some (.dK (kv (tidyM c (multT l1 l2)))) → Q (.ref D) H'
abbrev nMult : List Str := ["one", "other", "clock", "found", "front", "number", "back", "amount"]
theorem sc_mult : FnScope nMult ["one", "other", "clock"] (defScope s_multiplied) := ⟨rfl, rfl, rfl, by decide +kernel, rfl, by decide +kernel, by decide +kernel⟩
theorem ok_multiplied (T : Top K mg) : Ok P w K mg base 2 "multiplied" ["one", "other", "clock"] spMult := by
  obtain ⟨fd, F⟩ := fn_multiplied T
  refine ⟨⟨fd, ?_, F.bindsN fun _ _ _ _ _ _ us hl => match us, hl with | [_, _, _], _ => rfl⟩, g_multiplied T, F.kp⟩
  refine F.ok sc_mult (fun vs H Q E h => ?_) (fun cdv A outer s H vs Q E hr h => ?_)
  · obtain ⟨d1, d2, c, m1, k1, m2, k2, l1, l2, rfl, _⟩ := h
    rfl
  · obtain ⟨d1, d2, c, m1, k1, m2, k2, l1, l2, rfl, hc, hc7, n12, h1, h2, v1, v2, hm1, hm2, hk, q⟩ := h
    have nd := sc_mult.nd
    have hu := hu_of hr
    have hs : sizeLine = 16777216 := sizeLine_eq
    have hkk : l1.length * l2.length ≤ 900000 := Nat.le_trans (Nat.mul_le_mul v1.ln v2.ln) hk
    refine ⟨_, PSs.nox (pss_cons (ps_set (i := 3) nd rfl (Or.inl rfl) pe_dnewK)
      (pss_cons (ps_lock (ps_for PassesOwn.never rfl (pi_items (pv 0)) (pg_tup rfl (pgs_cons (pg_name (i := 4) nd rfl (Or.inl rfl)) (pgs_cons (pg_name (i := 5) nd rfl (Or.inl rfl)) pgs_nil)))
        (pss_one (ps_lock (ps_for PassesOwn.never rfl (pi_items (pv 1)) (pg_tup rfl (pgs_cons (pg_name (i := 6) nd rfl (Or.inl rfl)) (pgs_cons (pg_name (i := 7) nd rfl (Or.inl rfl)) pgs_nil)))
          (pss_one (ps_dput hu (pv 3) (pe_op op_add_str (pv 4) (pv 6)) (pe_op op_add (pe_dget2 hu (pv 3) (pe_op op_add_str (pv 4) (pv 6)) pe_int ⟨rfl, rfl, rfl, rfl⟩) (pe_op op_mul (pv 5) (pv 7))) rfl)))))))
      (pss_one (ps_ret (pc (ok_tidied T) hr (pa_cons (pv 3) (pa_cons (pv 2) pa_nil))))))), ?_⟩
    refine fun F0 hF => ?_
    have n1F : d1 ≠ F0 := ne_of_none h1 hF
    have n2F : d2 ≠ F0 := ne_of_none h2 hF
    refine ⟨d1, .dK (kv l1), by rw [upd_ne n1F]; exact h1, trivial, fun od => ?_⟩
    refine ⟨_, rfl, d1, od, kv l1, rfl, upd_same, ?_⟩
    refine for_it walk_items (fun i σ H' => (∃ v u v2 u2, σ = [some (.ref d1), some (.ref d2), some (.int c), some (.ref F0), v, u, v2, u2]) ∧ H' F0 = some (.dK (kv (addT (prs (l1.take i) l2) []))) ∧ But d1 H H' ∧ H' d1 = some (.frz od (.dK (kv l1))))
      ⟨⟨none, none, none, none, rfl⟩, ?_, ?_, upd_same⟩ (fun i σ H' _ hP => hP.2.2.2) ?_ ?_
    · rw [upd_ne n1F.symm, upd_same]
      rfl
    · intro b o e n
      rw [upd_ne n, upd_ne (ne_of_none e hF)]
      exact e
    · rintro i x σ H1 H2 hi ⟨⟨v, u, v2', u2', rfl⟩, p1, p2, p3⟩ ⟨t, k, v', rfl, ht, rfl, e1, e2⟩
      obtain ⟨p, ep, rfl, rfl⟩ := kv_item e1 e2
      have hp : p ∈ l1 := List.mem_of_getElem? ep
      have hil : i < l1.length := (List.getElem?_eq_some_iff.mp ep).1
      have nFt : F0 ≠ t := ne_of_none p1 ht
      have ndt : d1 ≠ t := ne_of_none p3 ht
      have x1 : (upd H1 t (.tup [.str p.1, .int p.2])) F0 = some (.dK (kv (addT (prs (l1.take i) l2) []))) := by
        rw [upd_ne nFt]
        exact p1
      have x2 : But d1 H (upd H1 t (.tup [.str p.1, .int p.2])) := fun b o z n => by
        rw [upd_ne (ne_of_none (p2 b o z n) ht)]
        exact p2 b o z n
      have x3 : (upd H1 t (.tup [.str p.1, .int p.2])) d1 = some (.frz od (.dK (kv l1))) := by
        rw [upd_ne ndt]
        exact p3
      refine ⟨t, _, rfl, .inl (.inl upd_same), rfl, ?_⟩
      refine ⟨_, _, rfl, _, _, rfl, rfl, ?_⟩
      generalize upd H1 t (.tup [.str p.1, .int p.2]) = H1 at x1 x2 x3 ⊢
      clear p1 p2 p3 nFt ndt ht
      have hplen : (l1.take i).length = i := by rw [List.length_take]; omega
      refine ⟨d2, .dK (kv l2), x2 _ _ h2 n12.symm, trivial, fun od2 => ?_⟩
      refine ⟨_, rfl, d2, od2, kv l2, rfl, upd_same, ?_⟩
      refine for_it walk_items (fun j σ H' => (∃ v u, σ = [some (.ref d1), some (.ref d2), some (.int c), some (.ref F0), some (.str p.1), some (.int p.2), v, u]) ∧ H' F0 = some (.dK (kv (addT ((fwd p l2).take j) (addT (prs (l1.take i) l2) [])))) ∧
          (∀ b o, H b = some o → b ≠ d1 → b ≠ d2 → H' b = some o) ∧ H' d1 = some (.frz od (.dK (kv l1))) ∧ H' d2 = some (.frz od2 (.dK (kv l2))))
        ⟨⟨_, _, rfl⟩, ?_, ?_, ?_, upd_same⟩ (fun i σ H' _ hP => hP.2.2.2.2) ?_ ?_
      · rw [upd_ne n2F.symm]
        exact x1
      · intro b o z na nb
        rw [upd_ne nb]
        exact x2 b o z na
      · rw [upd_ne n12]
        exact x3
      · rintro j x σ H3 H4 hj ⟨⟨v, u, rfl⟩, r1, r2, r3, r4⟩ ⟨t2, k, v', rfl, ht2, rfl, e1, e2⟩
        obtain ⟨q0, eq0, rfl, rfl⟩ := kv_item e1 e2
        have hq : q0 ∈ l2 := List.mem_of_getElem? eq0
        have hjl : j < l2.length := (List.getElem?_eq_some_iff.mp eq0).1
        have hn1 := v1.nu p hp
        have hn2 := v2.nu q0 hq
        have hw1 := v1.wd p hp
        have hw2 := v2.wd q0 hq
        have nFt : F0 ≠ t2 := ne_of_none r1 ht2
        have y1 : (upd H3 t2 (.tup [.str q0.1, .int q0.2])) F0 = some (.dK (kv (addT ((fwd p l2).take j) (addT (prs (l1.take i) l2) [])))) := by
          rw [upd_ne nFt]
          exact r1
        have hwl : p.1.length + q0.1.length ≤ sizeLine := by have := hw1.2; have := hw2.2; omega
        refine ⟨t2, _, rfl, .inl (.inl upd_same), rfl, ?_⟩
        refine ⟨_, _, rfl, _, _, rfl, rfl, ?_⟩
        refine ⟨_, rfl, F0, rfl, .inl ⟨_, .inl y1⟩, _, rfl, _, rfl, _, _, rfl, rfl, hwl, _, DGet.k (k := Sum.inr (p.1 ++ q0.1)) y1, ?_⟩
        rw [num_eq]
        refine ⟨_, rfl, _, rfl, _, _, rfl, rfl, .inr ⟨by omega, by omega⟩, _, _, rfl, rfl, ?_⟩
        refine ⟨_, rfl, _, rfl, _, rfl, _, _, rfl, rfl, hwl, F0, _, rfl, DPut.k (k := Sum.inr (p.1 ++ q0.1)) y1 ?_, ?_⟩
        · have b1 := len_addT ((fwd p l2).take j) (addT (prs (l1.take i) l2) [])
          have b2 := len_addT (prs (l1.take i) l2) []
          rw [prs_len, hplen] at b2
          rw [List.length_take, fwd_len] at b1
          have b3 : (i + 1) * l2.length ≤ l1.length * l2.length := Nat.mul_le_mul_right _ hil
          rw [Nat.add_mul] at b3
          have b4 : ([] : Tb).length = 0 := rfl
          rw [kv_len]
          omega
        · refine ⟨⟨_, _, rfl⟩, ?_, ?_, ?_, ?_⟩
          · rw [upd_same, putK_kv, addT_take (fwd_get eq0)]
          · intro b o z na nb
            rw [upd_ne (ne_of_none z hF), upd_ne (ne_of_none (r2 b o z na nb) ht2)]
            exact r2 b o z na nb
          · rw [upd_ne n1F, upd_ne (ne_of_none r3 ht2)]
            exact r3
          · rw [upd_ne n2F, upd_ne (ne_of_none r4 ht2)]
            exact r4
      · rintro σ H3 ⟨⟨v, u, rfl⟩, r1, r2, r3, r4⟩
        rw [kv_len, List.take_of_length_le (by rw [fwd_len]; exact Nat.le_refl _)] at r1
        refine ⟨r4, ⟨_, _, _, _, rfl⟩, ?_, ?_, ?_⟩
        · rw [upd_ne n2F.symm, prs_take ep, addT_app]
          exact r1
        · intro b o z na
          by_cases nb : b = d2
          · rw [nb, upd_same, ← h2, ← nb, z]
          · rw [upd_ne nb]
            exact r2 b o z na nb
        · rw [upd_ne n12]
          exact r3
    · rintro σ H' ⟨⟨v, u, v2', u2', rfl⟩, p1, p2, p3⟩
      rw [kv_len, List.take_length] at p1
      refine ⟨p3, ?_⟩
      have base' : Same H (upd H' d1 (.dK (kv l1))) := fun b o e => by
        by_cases n : b = d1
        · rw [n, upd_same, ← h1, ← n, e]
        · rw [upd_ne n]
          exact p2 b o e n
      refine ⟨_, rfl, _, rfl, F0, c, _, rfl, hc, by rw [upd_ne n1F.symm]; exact p1, nd_addT _ _ (show Nd [] from List.nodup_nil), ?_, fun H2 D s2 nD eD => q H2 D (base'.trans s2) (base'.free nD) eD⟩
      have := len_addT (prs l1 l2) []
      rw [prs_len] at this
      have b4 : ([] : Tb).length = 0 := rfl
      omega
/-- one table behind another one, tidied -/
theorem vt_mul {c : Int} {m k m' k' : Nat} {l l' : Tb} (hc : 0 < c) (h : VT c m k l) (h' : VT c m' k' l') : VT c (m + m') (k * k') (tidyM c (multT l l')) ∧ Lk c (tidyM c (multT l l')) (prs l l') := by
  have n1 : Nd (multT l l') := nd_addT _ _ (show Nd [] from List.nodup_nil)
  have e : Lk c (multT l l') (prs l l') := lk_addT (a := []) (show Nd [] from List.nodup_nil)
  refine ⟨(vt_tidy (m := m + m') hc n1 fun p hp => ?_).mono (Nat.le_refl _) ?_, (lk_tidy n1).trans e⟩
  · rcases key_addT _ _ p hp with ⟨q, h1, h2⟩ | ⟨q, h1, h2⟩
    · cases h1
    · unfold prs at h1
      obtain ⟨r, h3, h4⟩ := List.mem_flatMap.mp h1
      obtain ⟨s, h5, rfl⟩ := List.mem_map.mp h4
      rw [← h2]
      have a1 := h.wd r h3
      have a2 := h'.wd s h5
      refine ⟨xyz_app a1.1 a2.1, ?_⟩
      show (r.1 ++ s.1).length ≤ _
      rw [len_app]
      omega
  · have := len_addT (prs l l') []
    rw [prs_len] at this
    have b4 : ([] : Tb).length = 0 := rfl
    have b5 : l.length * l'.length ≤ k * k' := Nat.mul_le_mul h.ln h'.ln
    unfold multT
    omega
theorem sc_check_clocks : FnScope nClocks nClocks (defScope s_check_clocks) := ⟨rfl, rfl, rfl, by decide +kernel, rfl, by decide +kernel, by decide +kernel⟩
theorem ok_check_clocks (T : Top K mg) : OkX P w K mg base 1 "check_clocks" nClocks (spClocks K) := by
  obtain ⟨fd, F⟩ := fn_check_clocks T
  obtain ⟨x1, x2, x3, x4⟩ := e_UnlikeClocks T
  refine ⟨⟨fd, ?_, F.bindsN fun _ _ _ _ _ _ us hl => match us, hl with | [_, _], _ => rfl⟩, g_check_clocks T, F.kp⟩
  refine F.ok sc_check_clocks (fun vs H Q E h => ?_) (fun cdv A outer s H vs Q E hr h => ?_)
  · obtain ⟨a, b, c, c', L, M, rfl, _⟩ := h
    rfl
  · obtain ⟨a, b, c, c', L, M, rfl, ⟨dx, t, ea, _⟩, ⟨dy, t', eb, _⟩, q1, q2⟩ := h
    refine ⟨_, pss_one (ps_if (pt_cmpR op_ne (pe_fld (pv 0) rfl) (pe_fld (pv 1) rfl) (nomark _)) (pss_one (ps_raise rfl (takes_of rfl rfl rfl rfl) (pmk_own0 PySem.F.excBase_ValueError x1 (g_UnlikeClocks T) x2 (raises_own x3 x4) rfl))) pss_nil), ?_⟩
    refine ⟨_, rfl, a, _, dx, _, _, rfl, ea, cls_Bag T, na_Bag_clock T, flds_clock _ _, _, rfl, b, _, dy, _, _, rfl, eb, cls_Bag T, na_Bag_clock T, flds_clock _ _, rfl, _, rfl, ?_⟩
    refine ite2 (fun hne => ?_) (fun hne => ?_)
    · refine q2 fun z => ?_
      rw [z] at hne
      simp at hne
    · refine q1 ?_
      simpa using hne
abbrev nTog : List Str := ["one", "other"]
def spBeh (K : PySem.W.Frag) : Sp := fun vs H Q E => ∃ (a b : Addr) (c c' : Int) (m k m' k' : Nat) (l l' : Tb), vs = [.ref a, .ref b] ∧ Bg K H a c m k l ∧ Bg K H b c' m' k' l' ∧ isCk c ∧ m ≤ 1000 ∧ m' ≤ 1000 ∧ k * k' ≤ 900000 ∧
  (c = c' → ∀ H' r t, Same H H' → H r = none → Bg K H' r c (m + m') (k * k') t → Lk c t (prs l l') → Q (.ref r) H') ∧ (c ≠ c' → E (.ref (He.ga K "UnlikeClocks")) none H)
theorem sc_behind : FnScope nTog nTog (defScope s_behind) := ⟨rfl, rfl, rfl, by decide +kernel, rfl, by decide +kernel, by decide +kernel⟩
theorem ok_behind (T : Top K mg) : OkX P w K mg base 8 "behind" nTog (spBeh K) := by
  obtain ⟨fd, F⟩ := fn_behind T
  refine ⟨⟨fd, ?_, F.bindsN fun _ _ _ _ _ _ us hl => match us, hl with | [_, _], _ => rfl⟩, g_behind T, F.kp⟩
  refine F.ok sc_behind (fun vs H Q E h => ?_) (fun cdv A outer s H vs Q E hr h => ?_)
  · obtain ⟨a, b, c, c', m, k, m', k', l, l', rfl, _⟩ := h
    rfl
  · obtain ⟨a, b, c, c', m, k, m', k', l, l', rfl, h1, h2, hck, hm, hm', hk, q1, q2⟩ := h
    have hr1 : Room 1 _ := hr.mono (by decide)
    have hr2 : Room 2 _ := hr.mono (by decide)
    obtain ⟨hc2, hc7⟩ := ck_range hck
    have hc0 : 0 < c := by omega
    obtain ⟨dx, t, ea, wa⟩ := id h1.1
    refine ⟨_, pss_cons (ps_expr (pcX (takes_of rfl rfl rfl rfl) (ok_check_clocks T) hr1 (pa_cons (pv 0) (pa_cons (pv 1) pa_nil))))
      (pss_one (ps_ret (pc (ok_bag_of T) hr (pa_cons (pe_fld (pv 0) rfl) (pa_cons (pc (ok_multiplied T) hr2 (pa_cons (pc (ok_table_of T) hr1 (pa_cons (pv 0) pa_nil)) (pa_cons (pc (ok_table_of T) hr1 (pa_cons (pv 1) pa_nil)) (pa_cons (pe_fld (pv 0) rfl) pa_nil)))) pa_nil))))), ?_⟩
    refine ⟨_, rfl, _, rfl, a, b, c, c', _, _, rfl, h1.1, h2.1, fun hcc => ?_, fun hcc => q2 hcc⟩
    subst hcc
    have v1 := vt_canon h1.2
    have v2 := vt_canon h2.2
    refine ⟨_, rfl, a, _, dx, _, _, rfl, ea, cls_Bag T, na_Bag_clock T, flds_clock _ _, ?_⟩
    refine ⟨_, rfl, a, c, canon l, rfl, h1.1, v1.nd, fun D1 hD1 => ?_⟩
    have s1 := same_upd (o := .dK (kv (canon l))) hD1
    refine ⟨_, rfl, b, c, canon l', rfl, h2.1.same s1, v2.nd, fun D2 hD2 => ?_⟩
    have s2 := same_upd (o := .dK (kv (canon l'))) hD2
    refine ⟨_, rfl, a, _, dx, _, _, rfl, s2 _ _ (s1 _ _ ea), cls_Bag T, na_Bag_clock T, flds_clock _ _, ?_⟩
    have n12 : D1 ≠ D2 := fun e => by
      rw [← e, upd_same] at hD2
      cases hD2
    refine ⟨D1, D2, c, m, k, m', k', canon l, canon l', rfl, hc0, hc7, n12, s2 _ _ upd_same, upd_same, v1, v2, hm, hm', hk, fun H3 D3 s3 n3 e3 => ?_⟩
    obtain ⟨w1, w2⟩ := vt_mul hc0 v1 v2
    obtain ⟨w3, w4⟩ := vt_again hc0 w1
    refine ⟨c, D3, _, rfl, hck, e3, w1.nd, fun p hp => Nat.le_trans (w1.wd p hp).2 (by omega), Nat.le_trans w1.ln (by omega), fun H4 r s4 n4 hb4 => ?_⟩
    have s := ((s1.trans s2).trans s3)
    exact q1 rfl H4 r _ (s.trans s4) (s.free n4) ⟨hb4, w3⟩ (w4.trans (w2.trans (Lk.prs (lk_canon h1.2.nd) (lk_canon h2.2.nd))))
end
end Fp

set_option Elab.async false
set_option linter.all false
set_option maxRecDepth 100000
set_option maxHeartbeats 4000000
namespace Fp
open PySem PySem.Spec PyProof.Rows L2
theorem OddV.off {H H' : Hp} {x : V} {h : Addr} (v : OddV H x) (k : But h H H') (hl : ∃ xs, H h = some (.lst xs)) (hn : x ≠ .ref h) : OddV H' x := by
  obtain ⟨zs, hz⟩ := hl
  refine v.but fun a xs => ⟨fun e => k _ _ e fun z => ?_, fun e ex => k _ _ e fun z => hn (by rw [ex, z])⟩
  rw [z, hz] at e
  cases e
/-- the signs that are none of the letters -/
def bad (s : List Nat) : List Nat := s.filter fun c => !decide (c ∈ ("xyz" : Str).cps.toList)
theorem bad_nil {s : Str} : decide ((bad s.cps.toList).length = 0) = xyzB s := by
  rw [Bool.eq_iff_iff, decide_eq_true_iff, xyzB_iff, List.length_eq_zero_iff]
  unfold bad xyz
  rw [List.filter_eq_nil_iff]
  have e : ("xyz" : Str).cps.toList = [120, 121, 122] := by decide +kernel
  rw [e]
  constructor
  · intro h c hc
    have := h c hc
    simp at this
    omega
  · intro h c hc
    have := h c hc
    simp
    omega
section
variable {P : Program} {w : World} {K : PySem.W.Frag} {mg : Str → Option Value} {base : Heap}
def spFlag : Sp := fun vs H Q _ => ∃ a b : Bool, vs = [.bl a, .bl b] ∧ Q (.bl (decide (a = b))) H
abbrev nFlag : List Str := ["_law_told", "_law_due"]
/-! ### the law's drawing -/
def spSomeS : Sp := fun vs H Q _ => ∃ h ca : Addr, vs = [.ref h, .str "xxyyz"] ∧ HandAt ca H h ∧ ∀ H' (b : Nat), HandAt ca H' h → But h H H' → (b = 120 ∨ b = 121 ∨ b = 122) → Q (.str ⟨#[b]⟩) H'
abbrev nPick : List Str := ["_law_hand_here", "_law_things"]
theorem sc_pick : FnScope nPick nPick (defScope s__law_some) := ⟨rfl, rfl, rfl, by decide +kernel, rfl, by decide +kernel, by decide +kernel⟩
theorem ok_someS (T : Top K mg) : Ok P w K mg base 2 "_law_some" nPick spSomeS := by
  obtain ⟨fd, F⟩ := fn__law_some T
  refine ⟨⟨fd, ?_, F.bindsN fun _ _ _ _ _ _ us hl => match us, hl with | [_, _], _ => rfl⟩, g__law_some T, F.kp⟩
  refine F.ok sc_pick (fun vs H Q E h => ?_) (fun cdv A outer s H vs Q E hr h => ?_)
  · obtain ⟨h, ca, rfl, _⟩ := h
    rfl
  · obtain ⟨h, ca, rfl, hh, q⟩ := h
    have hs : sizeLine = 16777216 := sizeLine_eq
    refine ⟨_, PSs.nox (pss_one (ps_ret (pe_ix ix_str (pv 1) (pc (ok_draw T) hr (pa_cons (pv 0) (pa_cons (pe_callB call_len_str (by rfl) (f_len T) PySem.boot_len (pa_cons (pv 1) pa_nil)) pa_nil))) (fun _ _ => rfl)))), ?_⟩
    have e5 : ("xxyyz" : Str).length = 5 := by decide +kernel
    refine ⟨_, rfl, _, rfl, _, rfl, "xxyyz", rfl, by rw [e5]; omega, ?_⟩
    rw [e5]
    refine ⟨h, ca, 5, rfl, by decide, by decide, hh, fun r H1 hr0 hr1 h1 k1 => ?_⟩
    obtain ⟨n, rfl⟩ : ∃ n : Nat, r = n := ⟨r.toNat, (Int.toNat_of_nonneg hr0).symm⟩
    have e : ∃ b : Nat, (b = 120 ∨ b = 121 ∨ b = 122) ∧ ("xxyyz" : Str).cps.toList[n]? = some b := by
      have el : ("xxyyz" : Str).cps.toList = [120, 120, 121, 121, 122] := by decide +kernel
      rw [el]
      have : n = 0 ∨ n = 1 ∨ n = 2 ∨ n = 3 ∨ n = 4 := by omega
      rcases this with rfl | rfl | rfl | rfl | rfl
      · exact ⟨120, .inl rfl, rfl⟩
      · exact ⟨120, .inl rfl, rfl⟩
      · exact ⟨121, .inr (.inl rfl), rfl⟩
      · exact ⟨121, .inr (.inl rfl), rfl⟩
      · exact ⟨122, .inr (.inr rfl), rfl⟩
    obtain ⟨b, hb, eb⟩ := e
    exact ⟨"xxyyz", (n : Int), b, rfl, rfl, by rw [e5]; omega, atI_nat eb, q H1 b h1 k1 hb⟩
def spSomeL : Sp := fun vs H Q _ => ∃ (h ca L : Addr) (xs : List V), vs = [.ref h, .ref L] ∧ HandAt ca H h ∧ H L = some (.lst xs) ∧ h ≠ L ∧ xs ≠ [] ∧ xs.length ≤ 1000 ∧ ∀ H' (i : Nat) (x : V), HandAt ca H' h → But h H H' → xs[i]? = some x → Q x H'
theorem ok_someL (T : Top K mg) : Ok P w K mg base 2 "_law_some" nPick spSomeL := by
  obtain ⟨fd, F⟩ := fn__law_some T
  refine ⟨⟨fd, ?_, F.bindsN fun _ _ _ _ _ _ us hl => match us, hl with | [_, _], _ => rfl⟩, g__law_some T, F.kp⟩
  refine F.ok sc_pick (fun vs H Q E h => ?_) (fun cdv A outer s H vs Q E hr h => ?_)
  · obtain ⟨h, ca, L, xs, rfl, _⟩ := h
    rfl
  · obtain ⟨h, ca, L, xs, rfl, hh, hL, hne, hxs, hxl, q⟩ := h
    have hs : sizeLine = 16777216 := sizeLine_eq
    refine ⟨_, PSs.nox (pss_one (ps_ret (pe_ix ix_list (pv 1) (pc (ok_draw T) hr (pa_cons (pv 0) (pa_cons (pe_callB call_len_seq (by rfl) (f_len T) PySem.boot_len (pa_cons (pv 1) pa_nil)) pa_nil))) (fun _ _ => rfl)))), ?_⟩
    have hpos : 0 < xs.length := List.length_pos_iff.mpr hxs
    refine ⟨_, rfl, _, rfl, _, rfl, L, xs, rfl, .inl (SqL.of hL), ?_⟩
    refine ⟨h, ca, (xs.length : Int), rfl, by omega, by omega, hh, fun r H1 hr0 hr1 h1 k1 => ?_⟩
    obtain ⟨n, rfl⟩ : ∃ n : Nat, r = n := ⟨r.toNat, (Int.toNat_of_nonneg hr0).symm⟩
    have en : xs[n]? = some xs[n] := List.getElem?_eq_getElem (by omega)
    exact ⟨L, xs, (n : Int), _, rfl, rfl, SqL.of (k1 _ _ hL hne.symm), atI_nat en, q H1 n _ h1 k1 en⟩
theorem sc_ck : FnScope ["_law_hand_here"] ["_law_hand_here"] (defScope s__law_clock) := ⟨rfl, rfl, rfl, by decide +kernel, rfl, by decide +kernel, by decide +kernel⟩
theorem ok_ck (T : Top K mg) : Ok P w K mg base 2 "_law_clock" ["_law_hand_here"] spCk := by
  obtain ⟨fd, F⟩ := fn__law_clock T
  refine ⟨⟨fd, ?_, F.bindsN fun _ _ _ _ _ _ us hl => match us, hl with | [_], _ => rfl⟩, g__law_clock T, F.kp⟩
  refine F.ok sc_ck (fun vs H Q E h => ?_) (fun cdv A outer s H vs Q E hr h => ?_)
  · obtain ⟨h, ca, rfl, _⟩ := h
    rfl
  · obtain ⟨h, ca, rfl, hh, q⟩ := h
    refine ⟨_, PSs.nox (pss_one (ps_ret (pe_ix ix_list (pe_lst (pa_cons pe_int (pa_cons pe_int (pa_cons pe_int (pa_cons pe_int (pa_cons pe_int (pa_cons pe_int (pa_cons pe_int pa_nil)))))))) (pc (ok_draw T) hr (pa_cons (pv 0) (pa_cons pe_int pa_nil))) (fun _ _ => rfl)))), ?_⟩
    refine ⟨by show 7 ≤ sizeLine; rw [sizeLine_eq]; decide, fun L hL => ?_⟩
    have hne : h ≠ L := by
      obtain ⟨xs, hx⟩ := hh.lst
      exact ne_of_none hx hL
    refine ⟨_, rfl, h, ca, 7, rfl, by decide, by decide, hh.same (same_upd hL), fun r H1 hr0 hr1 h1 k1 => ?_⟩
    obtain ⟨n, rfl⟩ : ∃ n : Nat, r = n := ⟨r.toNat, (Int.toNat_of_nonneg hr0).symm⟩
    have hn : n < 7 := by omega
    have e : ∃ c : Int, isCk c ∧ [V.int 2, V.int 2, V.int 2, V.int 3, V.int 3, V.int 5, V.int 7][n]? = some (V.int c) := by
      have : n = 0 ∨ n = 1 ∨ n = 2 ∨ n = 3 ∨ n = 4 ∨ n = 5 ∨ n = 6 := by omega
      rcases this with rfl | rfl | rfl | rfl | rfl | rfl | rfl
      · exact ⟨2, .inl rfl, rfl⟩
      · exact ⟨2, .inl rfl, rfl⟩
      · exact ⟨2, .inl rfl, rfl⟩
      · exact ⟨3, .inr (.inl rfl), rfl⟩
      · exact ⟨3, .inr (.inl rfl), rfl⟩
      · exact ⟨5, .inr (.inr (.inl rfl)), rfl⟩
      · exact ⟨7, .inr (.inr (.inr rfl)), rfl⟩
    obtain ⟨c, hc, ec⟩ := e
    refine ⟨L, _, _, _, rfl, rfl, .inl (.inl (k1 _ _ upd_same hne.symm)), atI_nat ec, ?_⟩
    exact q H1 c h1 (fun b o z n => k1 b o (same_upd hL b o z) n) hc
/-! ### the law's own look -/
def spLWord : Sp := fun vs H Q _ => ∃ x : V, vs = [x] ∧ OddV H x ∧ ∀ H', Same H H' → Q (.bl (isWB x)) H'
abbrev nLWord : List Str := ["_law_thing", "_law_sign"]
def spDoCr : Sp := fun vs H Q _ => ∃ (d : Addr) (s m k : Nat) (c : Int) (l : Tb) (x : V) (o : Option (List V)), vs = [.int c, .ref d, .int s, x] ∧ H d = some (.dK (kv l)) ∧ isCk c ∧ VT c m k l ∧ ThingV H x o ∧ ∀ H', Same H H' → Q (.bl (crossB c l s o)) H'
abbrev nDoCr : List Str := ["_law_clock_here", "_law_bag", "_law_letters", "_law_thing", "_law_one", "_law_other", "_law_tail", "_law_end", "_law_here", "_law_there", "_law_word"]
end
end Fp

set_option Elab.async false
set_option linter.all false
set_option maxRecDepth 100000
set_option maxHeartbeats 2000000
/-! sorted(xs, key=_law_key) of a list of texts, the key an own def (-len(word), word) -/
namespace Fp
open PySem PySem.W PySem.Spec PyProof.Rows
def kyA (p : Pos) : Arguments := { posonlyargs := [], args := [{ arg := "_law_word", annotation := none, pos := p }], vararg := none, kwonlyargs := [], kw_defaults := [], kwarg := none, defaults := [] }
def kyB (p1 p2 p3 p4 p5 p6 p7 : Pos) : List Stmt := [.Return (some (.Tuple [.UnaryOp .USub (.Call (.Name "len" p1) [.Name "_law_word" p2] [] p3) p4, .Name "_law_word" p5] 0 p6)) p7]
def kyS : Scope := { kind := .function, names := [(PySem.Str.ofString "_law_word", .local), (PySem.Str.ofString "len", .globalImplicit)], isGenerator := false, isCoroutine := false, more := [] }
section
variable {prog : Program} {w : World} {A : Around} {E : Value → Shared → Prop} {s : Shared} {K : Frag} {mg : Str → Option Value} {base : Heap} {fR : Addr} {fd : FuncData} {p0 p1 p2 p3 p4 p5 p6 p7 : Pos}
theorem key_call (F : L2.FunD K "_law_key" "_law_key" (kyA p0) (kyB p1 p2 p3 p4 p5 p6 p7) kyS [] [] fR fd) (Mo : L2.Mod K mg base) (kb : ∀ b o, base.get? b = some o → s.heap.get? b = some o) (hlen : mg "len" = none) (hroom : A.depth + 1 < recursionLimit)
    {w0 : Str} {t : Tok} (hw : w0.length ≤ sizeLine) : wpAny (model prog w) A (call (.ref fR) [.str w0 t]) (KeyPure (rk w0) s) E s := by
  obtain ⟨oc, od, dV, kV, doc, pm, an, cdv, ct, osl, rfl, lk, hcd, hD, _⟩ := F.ex
  obtain rfl : dV = .none := by
    rcases hD with ⟨_, e⟩ | ⟨e, _⟩
    · exact e
    · exact absurd rfl e
  have X : K.In s.heap := Mo.kin.keeps kb
  refine wpAny_call (Att.call_fn (binds := [("_law_word", .str w0 t)]) X (Mo.nolimit.keeps kb) lk hcd (Nat.lt_of_succ_lt hroom) (BindsTo.of_eq (by first | rfl | with_unfolding_all rfl)) (by first | rfl | decide | with_unfolding_all rfl) (fun s₁ IC => ?_) rfl rfl rfl)
  obtain ⟨h₁, tk₁, rfl⟩ := IC.toInCall.same
  have k : ∀ b o, s.heap.get? b = some o → h₁.get? b = some o := IC.toInCall.keep
  have hn := IC.toInCall.ns
  obtain ⟨mb, b1, b2⟩ := Mo.blt
  show wpAny _ _ (execs _ _) _ _ _
  refine wpAny_execs_cons (wpAny_Return_some (wpAny_Tuple_spliced ?_))
  show wpAny _ _ (spliced ((false, eval _ _) :: backTo p6 (starEach [_] _))) _ _ _
  refine Calls.spliced_cons (wpAny_UnaryOp ?_)
  refine wpAny_Call_Name_kw (Calls.Name_function_global rfl rfl (Calls.loadGlobal_builtin (Mo.glob.keeps fun b o e => k b o (kb b o e)) hlen (b1.keeps fun b o e => k b o (kb b o e)) ((b2 "len" (by decide)).trans boot_len) ?_) (by decide))
  refine callWith_builtin1 (spliced_more (ldC (v := .str w0 t) hn (by first | rfl | with_unfolding_all rfl | kernel_rfl) (spliced_none ?_))) rfl rfl
  have hs : sizeLine = 16777216 := sizeLine_eq
  have hl63 := L2.line63
  refine len_str (by omega) (neg_int ?_)
  show wpAny _ _ (spliced ((false, eval _ _) :: backTo p6 (starEach [] _))) _ _ _
  refine Calls.spliced_cons (ldC (v := .str w0 t) hn (by first | rfl | with_unfolding_all rfl | kernel_rfl) (Calls.spliced_nil ?_))
  refine ⟨by show 2 ≤ sizeLine; rw [sizeLine_eq]; decide, ?_⟩
  refine ⟨_, _, rfl, fun b o e => Heap.get?_push_of_some _ (k b o e), ?_⟩
  exact Reads.tuple (Heap.get?_push_size _ rfl) rfl rfl (by
    first
    | exact ReadsAll.cons (Reads.int _ _) (ReadsAll.cons (Reads.str _ _) ReadsAll.nil)
    | (have := ReadsAll.cons (h := Heap.push h₁ _) (Reads.int (-(w0.length : Int)) _) (ReadsAll.cons (Reads.str w0 t) ReadsAll.nil); simpa using this))
end
end Fp
namespace L2
open PySem PySem.Spec PyProof.Rows
def rSortKy (K : PySem.W.Frag) (fR : Addr) : List V → List V → Hp → VK → Prop := fun vs zs H Q => ∃ (a : Addr) (ws : List Str), vs = [.ref a] ∧ zs = [.ref fR] ∧ SqL K H a (ws.map V.str) ∧ (∀ w ∈ ws, w.length ≤ sizeLine) ∧
  ∀ p, H p = none → Q (.ref p) (upd H p (.lst ((ws.mergeSort Fp.leR).map V.str)))
theorem cr_sortKy {X : Cx} {fR : Addr} {fd : FuncData} {p0 p1 p2 p3 p4 p5 p6 p7 : Pos} (hcalm : X.calm = true) (F : FunD X.K "_law_key" "_law_key" (Fp.kyA p0) (Fp.kyB p1 p2 p3 p4 p5 p6 p7) Fp.kyS [] [] fR fd) (hlen : X.mg "len" = none) (hr : Room 1 X.A) : CallRK X (.builtin "sorted") [Str.ofString "key"] (rSortKy X.K fR) := by
  intro pins s σ H vs zs us ws Q I r rz h
  obtain ⟨a, ks, rfl, rfl, hS, hwl, q⟩ := h
  obtain rfl := Vals.ref1 r
  obtain ⟨w1, rfl, e1⟩ := vals1 rz
  obtain rfl : w1 = Value.ref fR := e1
  obtain ⟨its, rv, hl, hz⟩ := I.list hS
  have hE : PySem.W.EachIs (fun v w => ∃ t, v = Value.str w t) its ks := by
    have hl' : its.length = ks.length := by rw [← rv.length, List.length_map]
    refine Fp.strs_each hl' fun j v e => ?_
    have hj : j < ks.length := by rw [← hl']; exact (List.getElem?_eq_some_iff.mp e).1
    obtain ⟨u, hu', r⟩ := Vals.get rv (i := j) (x := .str ks[j]) (by rw [List.getElem?_map, List.getElem?_eq_getElem hj]; rfl)
    rw [e] at hu'
    obtain ⟨t, rfl⟩ := r
    exact ⟨ks[j], t, List.getElem?_eq_getElem hj, Option.some.inj hu'⟩
  have hz2 : ks.length ≤ sizeLine := by rw [List.length_map] at hz; exact hz
  have hun := hr.un
  refine PySem.W.sorted_key_data (b := false) Fp.rk hl.isList hE (Fp.rk_all ks) (Fp.rk_sortable ks) hz2 (fun w0 hw0 => ?_) (PyProof.Rows.ksk_s1 _ _) (fun x => PyProof.Rows.ksk_l1 _ _) (fun x => ksk_t1 _ _) (fun v w0 hR hw0 h tk kp => ?_) fun out n h' tk kp hnew hD hlen2 ho => ?_
  · have := Fp.rk_depth w0
    omega
  · obtain ⟨t, rfl⟩ := hR
    refine Fp.key_call (s := { s with heap := h, toks := tk }) F I.ok.mod (fun b o e => kp _ _ (I.bk b o e)) hlen ?_ (hwl w0 hw0)
    have := hr.dp
    show X.A.depth + 1 < _
    omega
  · have hlen3 : ((ks.mergeSort Fp.leR).map V.str).length ≤ sizeLine := by
      rw [List.length_map, List.length_mergeSort]
      exact hz2
    exact ⟨.ref _, upd H (s.heap.objs.size + 1) (.lst ((ks.mergeSort Fp.leR).map V.str)), I.laid (t' := tk) (fun b o e => kp b o e) (Nat.le_succ _) ⟨hlen3, out, n, Fp.vals_strs ho, hD⟩, rfl, q _ (I.hok.fresh (Nat.le_succ _))⟩
end L2

set_option Elab.async false
set_option linter.all false
set_option maxRecDepth 100000
set_option maxHeartbeats 4000000
/-! set(xs) of a list of texts, sorted(..) of such a set -/
namespace L2
open PySem PySem.Spec PyProof.Rows
def txtOf (e : Int × Value) : Str := match e.2 with
  | .str k _ => k
  | _ => Str.empty
def TxtE (w : World) (e : Int × Value) : Prop := ∃ k tk, e.2 = Value.str k tk ∧ e.1 = hashStr w k
/-- a set's payload: the texts of S, n of them; it can be walked -/
structure Pay (w : World) (es : Array (Int × Value)) (t : SetTable) (S : Str → Bool) (n : Nat) : Prop where
  good : ∀ e ∈ es.toList, TxtE w e
  nd : (es.toList.map txtOf).Nodup
  mem : ∀ k, S k = true ↔ k ∈ es.toList.map txtOf
  few : es.size < scanBound
  fit : t.fits es.size = true
  num : es.size = n
  ris : Ris t.place.toList
  led : w.params.followText "set-order" = true ∨ t.led = true
def TxtSet (w : World) (h : Heap) (a : Addr) (S : Str → Bool) (n : Nat) : Prop :=
  ∃ o es ep t, h.get? a = some o ∧ o.ExactSet ∧ o.data = .set es ep t ∧ Pay w es t S n
theorem TxtSet.at {w : World} {h h' : Heap} {a : Addr} {S : Str → Bool} {n : Nat} (R : TxtSet w h a S n) (k : ∀ o, h.get? a = some o → h'.get? a = some o) : TxtSet w h' a S n := by
  obtain ⟨o, es, ep, t, e, r⟩ := R
  exact ⟨o, es, ep, t, k o e, r⟩
theorem TxtSet.congr {w : World} {h : Heap} {a : Addr} {S S' : Str → Bool} {n : Nat} (R : TxtSet w h a S n) (e : ∀ k, S' k = S k) : TxtSet w h a S' n := by
  rw [show S' = S from funext e]
  exact R
section
variable {P : Program} {w : World}
theorem txt_is {e : Int × Value} (g : TxtE w e) (k : Str) : (strKind P w).is k e.2 = true ↔ txtOf e = k := by
  obtain ⟨k0, tk, h1, _⟩ := g
  unfold txtOf
  rw [h1]
  constructor
  · intro z
    exact ((strKind P w).inj (.str k0 tk) k k0 z (strKind_is P w k0 tk)).symm
  · intro z
    have z : k0 = k := z
    rw [← z]
    exact strKind_is P w k0 tk
theorem txt_elems {l : List (Int × Value)} (g : ∀ e ∈ l, TxtE w e) : ElemsOf (strKind P w) l := fun e he => by
  obtain ⟨k, tk, h1, h2⟩ := g e he
  exact ⟨⟨k, by rw [h1]; exact strKind_is P w k tk, h2⟩, by rw [h1] <;> rfl⟩
theorem txt_mem {l : List (Int × Value)} (g : ∀ e ∈ l, TxtE w e) (k : Str) : k ∈ l.map txtOf ↔ ∃ e ∈ l, (strKind P w).is k e.2 = true := by
  rw [List.mem_map]
  exact ⟨fun ⟨e, he, q⟩ => ⟨e, he, (txt_is (g e he) k).2 q⟩, fun ⟨e, he, q⟩ => ⟨e, he, (txt_is (g e he) k).1 q⟩⟩
end
section
variable {P : Program} {w : World} {A : Around} {E : Value → Shared → Prop} {s : Shared} {a : Addr} {S : Str → Bool} {n : Nat}
theorem txt_store {h : Heap} {o : Obj} {es es' : Array (Int × Value)} {ep : Nat} {t t' : SetTable} (ho : h.get? a = some o) (hd : o.data = .set es ep t) : (h.update a (Obj.putSet es' t')).get? a = some { o with data := .set es' (ep + 1) t' } := store_at ho hd
theorem txt_add_end {g : Bool → Sem Unit} (hg : ∀ (b : Bool) (s₁ : Shared) (Q' : Unit → Shared → Prop), Q' () s₁ → wpAny (model P w) A (g b) Q' E s₁)
    {o : Obj} {es : Array (Int × Value)} {ep : Nat} {t : SetTable} (ho : s.heap.get? a = some o) (hex : o.ExactSet) (hd : o.data = .set es ep t)
    {es1 : Array (Int × Value)} {t2 : SetTable} {S' : Str → Bool} {m : Nat} (pay : Pay w es1 t2 S' m) {wasDummy : Bool} {R : Option Bool → Shared → Prop}
    (hR : ∀ h', Heap.SameBut a s.heap h' → TxtSet w h' a S' m → R (some true) { s with heap := h' }) :
    wpAny (model P w) A (do
        storeSet a es1 t2
        if (!wasDummy && t2.tooFull) = true then do
            g (relayAll t2 es1 (SetTable.grown es1.size)).2.2
            storeSet a (relayAll t2 es1 (SetTable.grown es1.size)).1 (relayAll t2 es1 (SetTable.grown es1.size)).2.1
            pure (some true)
          else pure (some true)) R E s := by
  refine wpAny_bind (wpAny_storeSet_of ho hd ?_ (fits_of_scanBound pay.few))
  have o1 := txt_store (es' := es1) (t' := t2) ho hd
  have b1 := Heap.SameBut.update s.heap a (Obj.putSet es1 t2)
  split
  · have pm := relayAll_perm t2 es1 (SetTable.grown es1.size)
    have f3 := relayAll_fits t2 es1 (SetTable.grown es1.size)
    have r3 := relayAll_ris t2 es1 (SetTable.grown es1.size)
    have l3 := relayAll_led t2 es1 (SetTable.grown es1.size)
    generalize relayAll t2 es1 (SetTable.grown es1.size) = Z at pm f3 r3 l3 ⊢
    obtain ⟨es2, t3, gave⟩ := Z
    dsimp only at pm f3 r3 l3 ⊢
    have sz : es2.size = es1.size := by rw [← Array.length_toList, pm.length_eq, Array.length_toList]
    refine wpAny_bind (hg _ _ _ ?_)
    refine wpAny_bind (wpAny_storeSet_of o1 rfl ?_ (fits_of_scanBound (by rw [sz]; exact pay.few)))
    have o2 := txt_store (es' := es2) (t' := t3) o1 rfl
    refine wpAny_pure (hR _ (b1.trans (Heap.SameBut.update _ a _)) ⟨_, es2, _, t3, o2, hex, rfl, ?_⟩)
    exact ⟨fun e he => pay.good e (pm.mem_iff.mp he), (pm.map txtOf).nodup_iff.mpr pay.nd, fun k => (pay.mem k).trans (pm.map txtOf).mem_iff.symm, by rw [sz]; exact pay.few, f3, by rw [sz]; exact pay.num, r3, pay.led.imp id fun z => by rw [l3]; exact z⟩
  · exact wpAny_pure (hR _ b1 ⟨_, es1, _, t2, o1, hex, rfl, pay⟩)
theorem txt_add {k : Str} {tk : Tok} {Q : Bool → Shared → Prop} (R : TxtSet w s.heap a S n) (room : n + 1 < scanBound)
    (hQ : ∀ h', Heap.SameBut a s.heap h' → TxtSet w h' a (fun j => S j || decide (j = k)) (if S k = true then n else n + 1) → Q (!S k) { s with heap := h' }) :
    wpAny (model P w) A (setAddHashed a (.str k tk) ((strKind P w).hash k)) Q E s := by
  obtain ⟨o, es, ep, t, ho, hex, hd, pay⟩ := R
  have hkey : (strKind P w).is k (.str k tk) = true := strKind_is P w k tk
  have hsc : (Value.str k tk).scannable = true := rfl
  have hel : ElemsOf (strKind P w) es.toList := txt_elems pay.good
  unfold setAddHashed setAddHashedIn
  refine wpAny_holding (wpAny_bind (wpAny_setState_of ho hd pay.fit ?_))
  dsimp only
  rw [byScan_of hsc pay.few hel]
  simp only [↓reduceIte]
  unfold setAddByScan
  refine wpAny_bind ?_
  refine wpAny_bind (wpAny_rule ?_)
  refine wpAny_bind (wpAny_setScan_of hkey ho hd pay.fit hel ?_)
  cases hfi : List.findIdx? (fun e => (strKind P w).is k e.2) es.toList with
  | some j =>
    dsimp only
    obtain ⟨hj, pj, _⟩ := List.findIdx?_eq_some_iff_getElem.mp hfi
    have hSk : S k = true := (pay.mem k).2 ((txt_mem (P := P) (w := w) pay.good k).2 ⟨es.toList[j], List.getElem_mem hj, pj⟩)
    refine wpAny_pure (wpAny_pure ?_)
    have q := hQ s.heap (Heap.SameBut.refl a s.heap) ⟨o, es, ep, t, ho, hex, hd, ⟨pay.good, pay.nd, fun i => by
      rw [Bool.or_eq_true, decide_eq_true_eq, ← pay.mem i]
      exact ⟨fun z => z.elim id (fun e => e ▸ hSk), .inl⟩, pay.few, pay.fit, by rw [if_pos hSk]; exact pay.num, pay.ris, pay.led⟩⟩
    rw [hSk] at q
    exact q
  | none =>
    dsimp only
    have hnk : k ∉ es.toList.map txtOf := fun z => by
      obtain ⟨e, he, q⟩ := (txt_mem (P := P) (w := w) pay.good k).1 z
      have c := List.findIdx?_eq_none_iff.mp hfi e he
      rw [q] at c
      cases c
    have hSk : S k = false := by
      cases q : S k with
      | false => rfl
      | true => exact absurd ((pay.mem k).1 q) hnk
    have hgw : ∀ (b : Bool) {s₁ : Shared} {Q' : Unit → Shared → Prop}, Q' () s₁ → wpAny (model P w) A (match b with | true => rule "set.scan.the-table-gave-way" | false => pure ()) Q' E s₁ :=
      fun b s₁ Q' q => by cases b <;> first | exact wpAny_pure q | exact wpAny_rule q
    have pm := layNew_perm t es ((strKind P w).hash k) (.str k tk)
    have f1 := layNew_fits t es ((strKind P w).hash k) (.str k tk)
    have r1 := layNew_ris t es ((strKind P w).hash k) (.str k tk) pay.ris
    have l1 := layNew_led t es ((strKind P w).hash k) (.str k tk)
    generalize layNew t es ((strKind P w).hash k) (.str k tk) = Z at pm f1 r1 l1 ⊢
    obtain ⟨es1, t1, wasDummy, gave⟩ := Z
    dsimp only at pm f1 r1 l1 ⊢
    rw [Array.toList_push] at pm
    have pc : es1.toList.Perm (((strKind P w).hash k, Value.str k tk) :: es.toList) := pm.trans (List.perm_append_singleton _ _)
    have pk : (es1.toList.map txtOf).Perm (k :: es.toList.map txtOf) := pc.map txtOf
    have sz : es1.size = n + 1 := by rw [← Array.length_toList, pc.length_eq, List.length_cons, Array.length_toList, pay.num]
    have np : ∀ t2 : SetTable, t2.fits es1.size = true → Ris t2.place.toList → (w.params.followText "set-order" = true ∨ t2.led = true) → Pay w es1 t2 (fun j => S j || decide (j = k)) (n + 1) := fun t2 c1 c2 c3 =>
      ⟨fun e he => by
        rcases List.mem_cons.mp (pc.mem_iff.mp he) with z | z
        · rw [z]
          exact ⟨k, tk, rfl, rfl⟩
        · exact pay.good e z, pk.nodup_iff.mpr (List.nodup_cons.mpr ⟨hnk, pay.nd⟩), fun i => by
        rw [Bool.or_eq_true, decide_eq_true_eq, pay.mem i, pk.mem_iff, List.mem_cons]
        exact Or.comm, by rw [sz]; exact room, c1, sz, c2, c3⟩
    have hled : w.params.followText "set-order" = true ∨ t1.led = true := pay.led.imp id fun z => by rw [l1]; exact z
    have fin : ∀ h', Heap.SameBut a s.heap h' → TxtSet w h' a (fun j => S j || decide (j = k)) (n + 1) → Q true { s with heap := h' } := fun h' sb r => by
      have q := hQ h' sb
      rw [hSk] at q
      exact q r
    refine wpAny_bind (hgw _ ?_)
    split
    · refine wpAny_bind ?_
      rw [hashByValue_scannable 8 hsc]
      refine wpAny_pure ?_
      refine txt_add_end ?_ ho hex hd (np _ ?_ ?_ ?_) ?_
      · intro b s₁ Q' q; cases b <;> first | exact wpAny_pure q | exact wpAny_rule q
      · first | (split <;> first | exact f1 | exact SetTable.fits_plain_off f1) | exact f1
      · first | (split <;> exact r1) | exact r1
      · first | (split <;> exact hled) | exact hled
      · intro h' sb r; dsimp only; exact wpAny_pure (fin h' sb r)
    · refine wpAny_bind (wpAny_pure ?_)
      simp only [↓reduceIte]
      refine txt_add_end ?_ ho hex hd (np _ f1 r1 hled) ?_
      · intro b s₁ Q' q; cases b <;> first | exact wpAny_pure q | exact wpAny_rule q
      · intro h' sb r; dsimp only; exact wpAny_pure (fin h' sb r)
theorem txt_fresh {h : Heap} {xs : List Str} (ho : h.get? a = some { cls := .type "set", dict := none, data := .set #[] 0 (.fresh 0 0 (!w.params.followText "set-order")) }) : TxtSet w h a (fun j => decide (j ∈ xs.take 0)) 0 :=
  ⟨_, #[], 0, _, ho, ⟨rfl, rfl, rfl⟩, rfl, (fun e he => by simp at he), (by simp), (fun k => by simp), (by decide), (by rfl), rfl, List.Pairwise.nil, by
    show _ ∨ (!w.params.followText "set-order") = true
    cases w.params.followText "set-order"
    · exact .inr rfl
    · exact .inl rfl⟩
/-- the texts walked and added, one by one -/
theorem txt_loop {I : Addr} {fp wr : List Addr} {G : Array GenState → Array GenState → Prop} {N : Nat} {Pv : Nat → Value → Prop} {St : Nat → Shared → Prop} {R : Result → Shared → Prop}
    (W : WalksS P w A.in1 I fp wr G N Pv St) (a : Addr) (hSf : a ∉ fp) (xs : List Str) (hn : N = xs.length) (hb : xs.length + 1 < scanBound) (hval : ∀ i v, Pv i v → ∃ k t, xs[i]? = some k ∧ v = .str k t) :
    ∀ (k i : Nat) (s : Shared), N - i = k → i ≤ N → St i s → (∃ c, c ≤ i ∧ TxtSet w s.heap a (fun j => decide (j ∈ xs.take i)) c) →
      (∀ s' c, Moved (a :: wr) G s s' → c ≤ N → TxtSet w s'.heap a (fun j => decide (j ∈ xs)) c → R (.ok (.ret .none)) s') →
      codeAny (model P w) A (.builtin "set.update.loop" ⟨[.ref a, .ref I], []⟩) R s := by
  have hSw : a ∉ wr := fun h => hSf (W.sub _ h)
  have hsub : ∀ b ∈ wr, b ∈ a :: wr := fun b hb => List.mem_cons_of_mem _ hb
  intro k
  induction k with
  | zero =>
    intro i s hk' hi hst ⟨c, hc, hS⟩ hR
    obtain rfl : i = N := by omega
    refine codeAny_builtin F.entry_set_update_loop ?_
    rw [Around.under_plainId F.plain_set_update_loop _]
    show wpAny _ A.in1 (pyNext (.ref I) >>= _) _ _ s
    refine wpAny_bind (W.done s _ _ hst fun s' hm => ?_)
    show wpAny _ A.in1 (ret Value.none) _ _ s'
    rw [show xs.take i = xs from List.take_of_length_le (by omega)] at hS
    exact wpAny_pure (hR s' c (hm.mono hsub) hc (hS.at fun o e => hm.heap a o hSw e))
  | succ k ih =>
    intro i s hk' hi hst ⟨c, hc, hS⟩ hR
    have hlt : i < N := by omega
    refine codeAny_builtin F.entry_set_update_loop ?_
    rw [Around.under_plainId F.plain_set_update_loop _]
    show wpAny _ A.in1 (pyNext (.ref I) >>= _) _ _ s
    refine wpAny_bind (W.item i s _ _ hlt hst fun v s' hP hst' hm => ?_)
    obtain ⟨z, t, hz, rfl⟩ := hval i v hP
    have hS' : TxtSet w s'.heap a (fun j => decide (j ∈ xs.take i)) c := hS.at fun o e => hm.heap a o hSw e
    show wpAny _ A.in1 (holding [Value.str z t] (setAdd a (.str z t)) >>= _) _ _ s'
    refine wpAny_bind (wpAny_holding ?_)
    unfold setAdd
    refine wpAny_holding ?_
    refine wpAny_bind ((strKind P w).pyHash (k := z) (strKind_is _ _ _ _) ?_)
    refine txt_add (s := { s' with toks := s'.toks + 1 }) hS' (by omega) fun h' sb hS2 => ?_
    have hS3 : TxtSet w h' a (fun j => decide (j ∈ xs.take (i + 1))) (if decide (z ∈ xs.take i) = true then c else c + 1) := hS2.congr fun j => by
      rw [List.take_add_one, hz]
      simp [List.mem_append]
    have hc3 : (if decide (z ∈ xs.take i) = true then c else c + 1) ≤ i + 1 := by
      split <;> omega
    refine wpAny_pure ⟨plainId_quiet F.plain_set_update_loop _, ih (i + 1) _ (by omega) hlt (W.frame _ s' _ _ hst' (Nat.le_succ _) fun b hb o e => ?_) ⟨_, hc3, hS3⟩ fun s'' c2 hm'' hc'' hS'' => ?_⟩
    · rw [sb.2 b (fun h : b = a => hSf (by rw [← h]; exact hb))]
      exact e
    · refine hR s'' c2 (Moved.trans W.gtrans ((hm.mono hsub).then_heap (Nat.le_succ _) fun b o hb e => ?_) hm'') hc'' hS''
      rw [sb.2 b (fun h : b = a => hb (by rw [h]; exact List.mem_cons_self))]
      exact e
theorem txt_at : ∀ {us : List Value} {xs : List Str}, StrsAre us xs → ∀ (i : Nat) (v : Value), us[i]? = some v → ∃ k t, xs[i]? = some k ∧ v = .str k t
  | _, _, .nil, i, v, h => by simp at h
  | _, _, .cons n t _, 0, v, h => ⟨n, t, rfl, (Option.some.inj h).symm⟩
  | _, _, .cons n t hr, i + 1, v, h => txt_at hr i v h
/-- set(xs), xs a list of texts -/
theorem call_set_txts {l : Addr} {items : Array Value} (xs : List Str) {Q : Value → Shared → Prop} (hh : A.handled = none) (hl : s.heap.IsList l items) (hit : StrsAre items.toList xs) (hb : xs.length + 1 < scanBound)
    (h : ∀ (h' : Heap) (tk c : Nat), TxtSet w h' s.heap.objs.size (fun j => decide (j ∈ xs)) c → c ≤ xs.length → (∀ b o, s.heap.get? b = some o → h'.get? b = some o) → Q (.ref s.heap.objs.size) { s with heap := h', toks := tk }) :
    wpAny (model P w) A (call (.type "set") [.ref l]) Q E s := by
  have hisz : items.size = xs.length := by rw [← StrsAre.len_eq hit, Array.length_toList]
  obtain ⟨c, tl, hmro⟩ := F.called_set.mro
  have hmade := F.called_set.made
  have hsub := F.called_set.sub
  refine wpAny_call (codeAny_of_tree ?_)
  show wpAny _ _ (callAny (.type "set") _) _ _ _
  refine wpAny_pure ⟨Code.quiet_builtin _ (by decide +kernel), codeAny_builtin F.entry_type_call ?_⟩
  rw [Around.under_plain (weight_type_call_type "set" [.ref l] []) rfl]
  have h1 := F.called_set.notType
  have h2 := F.called_set.canCreate
  have hct := F.typeCall_set_1 (.ref l)
  repeat (any_goals (first | assumption | wp_step))
  refine codeAny_mono (code_set_led1 (.ref l) (E := E) (Q₁ := fun obj s₁ => obj = .ref s.heap.objs.size ∧ s₁ = { s with heap := s.heap.push { cls := .type "set", dict := none, data := .set #[] 0 (.fresh 0 0 (!w.params.followText "set-order")) } }) ⟨rfl, rfl⟩) fun r s₁ hr => ?_
  cases r with
  | error e => exact hr
  | ok fl =>
    cases fl with
    | ret obj =>
      obtain ⟨rfl, rfl⟩ := hr
      have hS : (s.heap.push { cls := .type "set", dict := none, data := .set #[] 0 (.fresh 0 0 (!w.params.followText "set-order")) }).get? s.heap.objs.size = some { cls := .type "set", dict := none, data := .set #[] 0 (.fresh 0 0 (!w.params.followText "set-order")) } := Heap.get?_push_size _ rfl
      have hT : Shared.TypeIs { s with heap := s.heap.push { cls := .type "set", dict := none, data := .set #[] 0 (.fresh 0 0 (!w.params.followText "set-order")) } } (.ref s.heap.objs.size) "set" := ⟨_, hS, rfl⟩
      have hli := F.called_set.init.lookup
      have hbi := F.called_set.init.bind (.ref s.heap.objs.size)
      repeat (any_goals (first | assumption | wp_step))
      refine codeAny_mono (codeAny_call_builtin (R := wants (fun r s₂ => r = .none ∧ ∃ h' tk c, s₂ = { s with heap := h', toks := tk } ∧ TxtSet w h' s.heap.objs.size (fun j => decide (j ∈ xs)) c ∧ c ≤ xs.length ∧
          (∀ b o, s.heap.get? b = some o → h'.get? b = some o)) E) F.called_set.init.plain F.entry_set_init (check_set_init_1 hT ?_)) fun r₂ s₂ hr₂ => ?_
      · obtain ⟨ol, hol, hcl, nl, hdl⟩ := hl
        obtain ⟨ocls, odict, odata, oslots⟩ := ol
        simp only at hcl hdl
        subst hcl
        subst hdl
        have hol' : (s.heap.push { cls := .type "set", dict := none, data := .set #[] 0 (.fresh 0 0 (!w.params.followText "set-order")) }).get? l = some { cls := .type "list", dict := odict, data := .seq items nl, slots := oslots } := Heap.get?_push_of_some _ hol
        have hsls := F.sub_list_set
        have hslf := F.sub_list_frozenset
        have hne : (Value.type "list" == Value.type "dict") = false := by decide
        have hl1 : (s.heap.push { cls := .type "set", dict := none, data := .set #[] 0 (.fresh 0 0 (!w.params.followText "set-order")) }).IsList l items := ⟨_, hol', rfl, nl, rfl⟩
        unfold Builtin.«set.__init__» noKeywords Builtin.Frozenset.updateFrom
        generalize hPI : pyIter = PI
        wp_walk
        subst hPI
        refine wpAny_pyIter_list hl1 ?_
        refine wpAny_bind (wpAny_runValue ?_)
        have hlS : l < s.heap.objs.size := Heap.lt_size hol
        have hh3 : A.in1.in1.in1.handled = none := by simp [hh]
        have hz1 : (s.heap.push { cls := .type "set", dict := none, data := .set #[] 0 (.fresh 0 0 (!w.params.followText "set-order")) }).objs.size = s.heap.objs.size + 1 := Heap.size_push ..
        have hneI : l ≠ (s.heap.push { cls := .type "set", dict := none, data := .set #[] 0 (.fresh 0 0 (!w.params.followText "set-order")) }).objs.size := by
          rw [Heap.size_push]
          exact Nat.ne_of_lt (Nat.lt_succ_of_lt hlS)
        have hSf : s.heap.objs.size ∉ [(s.heap.push { cls := .type "set", dict := none, data := .set #[] 0 (.fresh 0 0 (!w.params.followText "set-order")) }).objs.size, l] := by
          rw [Heap.size_push]
          simp only [List.mem_cons, List.not_mem_nil, or_false, not_or]
          exact ⟨Nat.ne_of_lt (Nat.lt_succ_self _), Nat.ne_of_gt hlS⟩
        have hval : ∀ (i : Nat) (v : Value), items[i]? = some v → ∃ k t, xs[i]? = some k ∧ v = .str k t := fun i v hv => by
          have hi : i < xs.length := by rw [← hisz]; exact (Array.getElem?_eq_some_iff.mp hv).1
          exact txt_at hit i v (by rw [Array.getElem?_toList]; exact hv)
        refine txt_loop ((Walks.list hh3 _ l hneI items).toS) s.heap.objs.size hSf xs hisz hb hval (items.size - 0) 0 _ (by omega) (Nat.zero_le _)
          ⟨⟨_, Heap.get?_push_size _ rfl, rfl, rfl⟩, (hl1.push _)⟩ ?hS0 ?hR
        case hS0 =>
          refine ⟨0, Nat.le_refl 0, txt_fresh ?_⟩
          exact Heap.get?_push_of_some _ hS
        case hR =>
          intro s' c' hm hc' hS'
          obtain ⟨h', g2, d', tk', os'⟩ := s'
          have eg : g2 = s.gens := hm.gens
          have ed : d' = s.drawn := hm.drawn
          have eo : os' = s.os := hm.os
          subst eg ed eo
          show wpAny _ _ _ _ _ _
          refine wpAny_pure ?_
          show wpAny _ _ (ret Value.none) _ _ _
          rw [hisz] at hc'
          refine wpAny_pure ⟨rfl, h', tk', c', rfl, hS', hc', fun b o e => ?_⟩
          have hb0 : b < s.heap.objs.size := Heap.lt_size e
          refine hm.heap b o ?_ (Heap.get?_push_of_some _ (Heap.get?_push_of_some _ e))
          rw [Heap.size_push]
          simp only [List.mem_cons, List.not_mem_nil, or_false, not_or]
          exact ⟨Nat.ne_of_lt hb0, Nat.ne_of_lt (Nat.lt_succ_of_lt hb0)⟩
      · cases r₂ with
        | error e => exact hr₂
        | ok fl₂ =>
          cases fl₂ with
          | ret r =>
            obtain ⟨rfl, h', tk, c', rfl, hS', hc', hk'⟩ := hr₂
            repeat (any_goals (first | assumption | wp_step))
            exact h _ _ _ hS' hc' hk'
          | _ => exact hr₂.elim
    | _ => exact hr.elim
/-! ### sorted -/
theorem txts_are : ∀ (l : List Value), (∀ v ∈ l, ∃ k tk, v = Value.str k tk) → StrsAre l (l.map fun v => txtOf (0, v))
  | [], _ => .nil
  | v :: l, h => by
    obtain ⟨k, tk, rfl⟩ := h v List.mem_cons_self
    exact .cons k tk (txts_are l fun u hu => h u (List.mem_cons_of_mem _ hu))
theorem sorted_txts {Q : Value → Shared → Prop} (R : TxtSet w s.heap a S n) (hh : A.handled = none) (h64 : n < 64)
    (hQ : ∀ s' p (out : Array Value) (c : Nat) (ys : List Str), (∀ b o, s.heap.get? b = some o → s'.heap.get? b = some o) → s'.gens = s.gens → s'.os = s.os → s.heap.objs.size ≤ p →
      s'.heap.get? p = some (seqObj "list" out c) → StrsAre out.toList ys → sortedS ys = true → ys.Nodup → (∀ k, k ∈ ys ↔ S k = true) → ys.length = n → Q (.ref p) s') :
    wpAny (model P w) A (call (.builtin "sorted") [.ref a]) Q E s := by
  obtain ⟨o, es, ep, t, ho, hex, hd, pay⟩ := R
  refine Calls.call_function_entry kind_sorted plain_sorted entry_sorted (args_sorted1 _) ?_
  unfold Builtin.«sorted»
  refine wpAny_bind (m := checkCount "sorted" 1 1 _) (wpAny_pure ?_)
  refine wpAny_bind (collect_set (A := A.in1) hh ⟨o, ho, hex.1, hd⟩ pay.fit pay.few pay.ris pay.led fun s1 vs k1 hz g1 o1 pm => ?_)
  have hvl : vs.length = n := by rw [pm.length_eq, List.length_map, Array.length_toList]; exact pay.num
  have hI := txts_are vs fun v hv => by
    obtain ⟨e, he, q⟩ := List.mem_map.mp (pm.mem_iff.mp hv)
    obtain ⟨k, tk, h1, _⟩ := pay.good e he
    exact ⟨k, tk, by rw [← q]; exact h1⟩
  have pk : (vs.map fun v => txtOf (0, v)).Perm (es.toList.map txtOf) := by
    have q := pm.map fun v => txtOf (0, v)
    rw [List.map_map] at q
    exact q
  refine wpAny_bind (wpAny_newList ?_ (by rw [hvl, sizeLine_eq]; omega))
  have hoL : (s1.heap.push (seqObj "list" vs.toArray 0)).get? s1.heap.objs.size = some (seqObj "list" vs.toArray 0) := Heap.get?_push_size _ rfl
  refine wpAny_bind (wpAny_holding (wpAny_call_entry slot_list_sort ⟨_, hoL, rfl⟩ entry_list_sort (list_sort_treeK strKind_oneLt hoL hI.keysOf (fun v₁ v₂ rest e => keyKind_strs (by rw [← e]; exact hI)) (by rw [hvl]; exact h64) fun st' a1 a2 => ⟨_, rfl, ?_⟩) (args_list_sort _)))
  obtain ⟨ys, b1, b2, b3⟩ := sorted_out_str hI a1 a2
  obtain ⟨c, hc⟩ := sortedHeap_at (vs := vs) (out := (arrOf st').map (·.2)) hoL
  have pn : ys.Perm (es.toList.map txtOf) := b2.trans pk
  refine wpAny_pure ⟨_, rfl, hQ _ s1.heap.objs.size _ c ys (fun b u e => ?_) g1 o1 hz hc b1 b3 (pn.nodup_iff.mpr pay.nd) (fun k => by rw [pn.mem_iff, ← pay.mem k]) ?_⟩
  · have q := k1 b u e
    have hlt := Heap.lt_size q
    show (sortedHeap (s1.heap.push (seqObj "list" vs.toArray 0)) s1.heap.objs.size vs ((arrOf st').map (·.2))).get? b = some u
    rw [sortedHeap_old (Nat.ne_of_lt hlt) (by rw [size_push']; exact Nat.lt_succ_of_lt hlt)]
    exact Heap.get?_push_of_some _ q
  · rw [pn.length_eq, List.length_map, Array.length_toList]
    exact pay.num
end
/-! ### over the layer -/
def TxtO (w : World) (a : Addr) (S : Str → Bool) (n : Nat) : HO := .ext fun h => TxtSet w h a S n
section
variable {X : Cx}
theorem txtO_new {w : World} {P : Program} {H : Hp} {h : Heap} {a : Addr} {S : Str → Bool} {n : Nat} (R : TxtSet w h a S n) : ObjOk P w H h a (TxtO w a S n) := by
  have ⟨o, _, _, _, ho, _⟩ := R
  exact ⟨R, ⟨o, ho⟩, fun h1 h2 p k => TxtSet.at p k⟩
def rSetTx (K : PySem.W.Frag) (w : World) : List V → Hp → VK → Prop := fun xs H Q => ∃ (l : Addr) (ys : List Str), xs = [.ref l] ∧ SqL K H l (ys.map V.str) ∧ ys.length < 64 ∧ ∀ a c, H a = none → c ≤ ys.length → Q (.ref a) (upd H a (TxtO w a (fun j => decide (j ∈ ys)) c))
theorem cr_setTx (hc : X.calm = true) : CallR X (.type "set") (rSetTx X.K X.w) := by
  intro pins s σ H xs us Q I r h
  obtain ⟨l, ys, rfl, hl, hf, q⟩ := h
  rw [Vals.ref1 r]
  obtain ⟨its, rv, pl, hz⟩ := I.list hl
  have hn : H s.heap.objs.size = none := I.hok.fresh (Nat.le_refl _)
  refine call_set_txts (P := X.prog) (w := X.w) ys (I.ok.hd hc) pl.isList (by simpa using rv.strs) (by unfold scanBound; omega) fun h' tk c R hcl k => ?_
  exact ⟨.ref s.heap.objs.size, upd H s.heap.objs.size (TxtO X.w s.heap.objs.size _ c), I.laid (t' := tk) k (Nat.le_refl _) (txtO_new R), rfl, q _ c hn hcl⟩
def rSortedTx (w : World) : List V → Hp → VK → Prop := fun vs H Q => ∃ (a : Addr) (S : Str → Bool) (n : Nat), vs = [V.ref a] ∧ H a = some (TxtO w a S n) ∧ n < 64 ∧
  ∀ (ys : List Str) (p : Addr), sortedS ys = true → ys.Nodup → (∀ k, k ∈ ys ↔ S k = true) → ys.length = n → H p = none → Q (.ref p) (upd H p (.lst (ys.map V.str)))
theorem cr_sortedTx (hc : X.calm = true) : CallR X (.builtin "sorted") (rSortedTx X.w) := by
  intro pins s σ H vs us Q I r h
  obtain ⟨a, S, n, rfl, ha, h64, q⟩ := h
  have R : TxtSet X.w s.heap a S n := (I.hok a _ ha).1
  rw [Vals.ref1 r]
  refine sorted_txts R (I.ok.hd hc) h64 fun s' p out c ys k g o hp hg hi hs hnd hm hl => ?_
  have hlen : (ys.map V.str).length ≤ sizeLine := by rw [List.length_map, hl, sizeLine_eq]; omega
  have hn : H p = none := I.hok.fresh hp
  have J : Inv X pins σ (upd H p (.lst (ys.map V.str))) { s with heap := s'.heap, gens := s'.gens, drawn := s'.drawn, toks := s'.toks } :=
    I.call (ch := []) (Un.laid k hp hn) (I.hok.laid k hp ⟨hlen, out.toList, c, vals_of_strs hi, hg⟩) (by rw [g]; exact I.bare) (fun _ z => nomatch z)
  have e : s' = { s with heap := s'.heap, gens := s'.gens, drawn := s'.drawn, toks := s'.toks } := by
    cases s'
    cases s
    cases o
    rfl
  rw [e]
  exact ⟨.ref p, _, J, rfl, q ys p hs hnd hm hl hn⟩
end
end L2

set_option Elab.async false
set_option linter.all false
set_option maxRecDepth 100000
set_option maxHeartbeats 4000000
/-! t != u of two tuples whose items are equal one by one, an own __eq__ among them: False -/
namespace GQ
open PySem PySem.Spec PyProof.Rows
section
variable {prog : Program} {w : World} {A : Around} {R : Result → Shared → Prop}
theorem tuple_neG (l b : Addr) (items items2 : Array Value) (n n2 : Nat) (dd dd2 : Option Addr) (sl sl2 : Array (Option Value)) (hsz : items.size = items2.size) (I : Nat → Shared → Prop)
    (turn : ∀ i (h1 : i < items.size) (h2 : i < items2.size) s, I i s → wpAny (model prog w) A.in1 (eqBool items[i] items2[i]) (fun r s' => r = true ∧ I (i + 1) s') (fun e s' => R (.error e) s') s)
    (fin : ∀ s, I items.size s → R (.ok (.ret (.bool false))) s) {s : Shared} (hl1 : s.heap.get? l = some { cls := .type "tuple", dict := dd, data := .seq items n, slots := sl }) (hb1 : s.heap.get? b = some { cls := .type "tuple", dict := dd2, data := .seq items2 n2, slots := sl2 }) (h : I 0 s) :
    wpAny (model prog w) A.in1 (Builtin.«tuple.__ne__» ⟨[.ref l, .ref b], []⟩) (FinOf prog w A R) (fun e s' => R (.error e) s') s := by
  have f2 := AutoSeq1.sub_tuple_tuple
  have hZ : (items.toList.zip items2.toList).length = items.size := by simp [hsz]
  have h0 := h
  obtain ⟨hp, g, d, tk, os⟩ := s
  wp_walk using wpAny_loadPart' hl1, wpAny_loadPart' hb1, wpAny_forIn_list _ (fun rest b s' => b.1 = none ∧ ∃ i, rest = (items.toList.zip items2.toList).drop i ∧ i ≤ items.size ∧ I i s') _
  case turn =>
    rintro ⟨y, x⟩ rest b s' ⟨hb', i, hz, hi, hI⟩
    have hlt : i < (items.toList.zip items2.toList).length := by
      rcases Nat.lt_or_ge i (items.toList.zip items2.toList).length with h' | h'
      · exact h'
      · rw [List.drop_of_length_le h'] at hz
        cases hz
    have h1 : i < items.size := hZ ▸ hlt
    have h2 : i < items2.size := hsz ▸ h1
    rw [List.drop_eq_getElem_cons hlt] at hz
    injection hz with hyx hrest
    obtain rfl : y = items[i] := by have := congrArg Prod.fst hyx; simpa using this
    obtain rfl : x = items2[i] := by have := congrArg Prod.snd hyx; simpa using this
    refine wpAny_bind (wpAny_mono (turn i h1 h2 s' hI) (fun r s2 q2 => ?_) fun _ _ x => x)
    obtain ⟨rfl, q2⟩ := q2
    wp_walk
    exact ⟨rfl, i + 1, hrest, h1, q2⟩
  case fin =>
    rintro ⟨b1, b2⟩ s' ⟨hb', i, hz, hi, hI⟩
    simp only at hb'
    subst hb'
    have hge : items.size ≤ i := by
      rcases Nat.lt_or_ge i (items.toList.zip items2.toList).length with h' | h'
      · rw [List.drop_eq_getElem_cons h'] at hz
        cases hz
      · exact hZ ▸ h'
    obtain rfl : i = items.size := by omega
    have hR : R (.ok (.ret (.bool false))) s' := fin s' hI
    wp_walk
    simpa [Builtin.Tuple.tupleCompareSizes, hsz] using hR
  case h => exact ⟨rfl, 0, rfl, Nat.zero_le _, h0⟩
end
section
variable {prog : Program} {w : World} {A : Around} {E : Value → Shared → Prop} {s : Shared}
theorem rc_tupNe {l b : Addr} {items items2 : Array Value} {Q : Value → Shared → Prop} (hsz : items.size = items2.size) (hu : A.units < cLine) (I : Nat → Shared → Prop)
    (hl : s.heap.IsTuple l items) (hb : s.heap.IsTuple b items2)
    (turn : ∀ i (h1 : i < items.size) (h2 : i < items2.size) s, I i s → wpAny (model prog w) A.in1 (eqBool items[i] items2[i]) (fun r s' => r = true ∧ I (i + 1) s') E s)
    (fin : ∀ s, I items.size s → Q (.bool false) s) (h : I 0 s) : wpAny (model prog w) A (richCompare .NotEq (.ref l) (.ref b)) Q E s := by
  obtain ⟨⟨cls, dd, data, sl⟩, ho, hc, n, hd⟩ := id hl
  obtain ⟨⟨cls2, dd2, data2, sl2⟩, ho2, hc2, n2, hd2⟩ := id hb
  simp only at hc hd hc2 hd2
  subst hc hd hc2 hd2
  refine wpAny_richCompare_same_room (op := .NotEq) ⟨_, ho, rfl⟩ ⟨_, ho2, rfl⟩ F.slot_tuple_ne (call_here F.slot_tuple_ne ⟨_, ho, rfl⟩ F.entry_tuple_ne (F.args_tuple_ne_2 _ _) ?_) hu
  exact tuple_neG (R := wants (fun v s' => v ≠ .notImplemented ∧ Q v s') E) l b items items2 n n2 dd dd2 sl sl2 hsz I turn (fun s' q => ⟨(fun x => nomatch x), fin s' q⟩) ho ho2 h
end
end GQ
namespace L2
open PySem PySem.Spec PyProof.Rows
theorem FnOk.weak {P : Program} {w : World} {K : PySem.W.Frag} {mg : Str → Option Value} {base : Heap} {CX : CXT} {k : Nat} {f : Addr} {fd : FuncData} {ps : List Str} {sp sp' : Sp} (F : FnOk P w K mg base CX k f fd ps sp) (h : ∀ vs H Q E, sp' vs H Q E → sp vs H Q E) : FnOk P w K mg base CX k f fd ps sp' :=
  ⟨fun vs H Q E z => F.len vs H Q E (h vs H Q E z), fun A outer s H args vs us Q E hr e0 hb hv z => F.run A outer s H args vs us Q E hr e0 hb hv (h _ H Q E z)⟩
section
variable {X : Cx} {n : Nat} {D : Eqv}
/-- t != u, False -/
theorem op_neTG (hD : Mon D) (h : EqG X n D) (hr : Room (n + 1) X.A) : OpR X (compareOp .NotEq) (fun x y H Q => DTup X.K D x y H ∧ ∀ H', Ext H H' → Q (.bl false) H') := by
  intro pins s σ H x y v u Q I rx ry hq
  obtain ⟨⟨a, b, xs, ys, rfl, rfl, ha, hb, p⟩, q⟩ := hq
  cases rx
  cases ry
  obtain ⟨its, r, e, z⟩ := I.tuple ha
  obtain ⟨its2, r2, e2, z2⟩ := I.tuple hb
  have hsz : its.toArray.size = its2.toArray.size := by rw [List.size_toArray, List.size_toArray, ← r.length, ← r2.length]; exact p.1
  have sb : Sub X (n + 1) X.A := ⟨hr, rfl⟩
  show wpAny (model X.prog X.w) X.A (richCompare .NotEq _ _) (EP X pins σ Q) X.xe s
  exact GQ.rc_tupNe hsz sb.room.units0 (fun _ s' => LoopI X pins σ H s') e e2 (fun i h1 h2 s' q => turnG hD h sb p r r2 i h1 h2 s' q) (fun s' ⟨H', I', e'⟩ => ⟨.bl false, H', I', rfl, q H' e'⟩) ⟨H, I, Ext.rfl'⟩
end
end L2

set_option Elab.async false
set_option linter.all false
set_option maxRecDepth 100000
set_option maxHeartbeats 4000000
namespace Fp
open PySem PySem.Spec PyProof.Rows L2
/-! ### the law's own tables: put to, added, product -/
def putQ (c : Int) (l : Tb) (x : Str) (n : Int) : Tb := if 0 < (num l x + n) % c then dropT l x ++ [(x, (num l x + n) % c)] else dropT l x
theorem mem_drop {l : Tb} {x : Str} {p : Str × Int} (h : p ∈ dropT l x) : p ∈ l ∧ p.1 ≠ x := by
  obtain ⟨h1, h2⟩ := List.mem_filter.mp h
  exact ⟨h1, of_decide_eq_true h2⟩
theorem vt_putQ {c : Int} {m k : Nat} {l : Tb} (v : VT c m k l) (hc : 0 < c) {x : Str} (hx : xyz x) (hl : x.length ≤ m) (n : Int) : VT c m (k + 1) (putQ c l x n) := by
  have hd : VT c m k (dropT l x) := ⟨nd_drop v.nd x, fun p hp => v.nu p (mem_drop hp).1, fun p hp => v.wd p (mem_drop hp).1, Nat.le_trans (List.length_filter_le _ _) v.ln⟩
  unfold putQ
  split
  · rename_i h
    refine ⟨?_, fun p hp => ?_, fun p hp => ?_, ?_⟩
    · show ((dropT l x ++ [(x, (num l x + n) % c)]).map (·.1)).Nodup
      rw [List.map_append, List.nodup_append]
      refine ⟨hd.nd, by simp, fun y hy z hz e => ?_⟩
      obtain ⟨p, hp, rfl⟩ := List.mem_map.mp hy
      have : z = x := by simpa using hz
      exact (mem_drop hp).2 (e.trans this)
    · rcases List.mem_append.mp hp with hp | hp
      · exact hd.nu p hp
      · obtain rfl := List.mem_singleton.mp hp
        exact ⟨h, Int.emod_lt_of_pos _ hc⟩
    · rcases List.mem_append.mp hp with hp | hp
      · exact hd.wd p hp
      · obtain rfl := List.mem_singleton.mp hp
        exact ⟨hx, hl⟩
    · rw [List.length_append]
      have := hd.ln
      show _ + 1 ≤ _
      omega
  · exact hd.mono (Nat.le_refl _) (Nat.le_succ _)
theorem tot_drop {l : Tb} (h : Nd l) (x y : Str) : tot (dropT l x) y = if x = y then 0 else tot l y := by
  rw [tot_num (nd_drop h x)]
  by_cases e : x = y
  · subst e
    rw [if_pos rfl, num_drop]
  · rw [if_neg e, num_drop_ne e, tot_num h]
theorem lk_putQ {c : Int} (hc : 0 < c) {l : Tb} (h : Nd l) (x : Str) (n : Int) : Lk c (putQ c l x n) (l ++ [(x, n)]) := fun y => by
  have h0 := Int.emod_nonneg (num l x + n) (show c ≠ 0 by omega)
  unfold putQ
  rw [tot_app, tot_cons, tot_nil, Int.add_zero]
  split
  · rename_i hp
    rw [tot_app, tot_cons, tot_nil, Int.add_zero, tot_drop h]
    by_cases e : x = y
    · subst e
      show ((if x = x then (0 : Int) else _) + (if x = x then (num l x + n) % c else 0)) % c = (tot l x + (if x = x then n else 0)) % c
      rw [if_pos rfl, if_pos rfl, if_pos rfl, Int.zero_add, Int.emod_emod_of_dvd _ (Int.dvd_refl c), tot_num h]
    · show ((if x = y then (0 : Int) else _) + (if x = y then (num l x + n) % c else 0)) % c = (tot l y + (if x = y then n else 0)) % c
      rw [if_neg e, if_neg e, if_neg e]
  · rename_i hp
    rw [tot_drop h]
    by_cases e : x = y
    · subst e
      show (if x = x then (0 : Int) else _) % c = (tot l x + (if x = x then n else 0)) % c
      rw [if_pos rfl, if_pos rfl, tot_num h, Int.zero_emod]
      omega
    · show (if x = y then (0 : Int) else tot l y) % c = (tot l y + (if x = y then n else 0)) % c
      rw [if_neg e, if_neg e, Int.add_zero]
theorem scl_take' {f : Int} {l : Tb} {i : Nat} {p : Str × Int} (e : l[i]? = some p) : scl f (l.take (i + 1)) = scl f (l.take i) ++ [(p.1, f * p.2)] := scl_take e
section
variable {P : Program} {w : World} {K : PySem.W.Frag} {mg : Str → Option Value} {base : Heap}
def spPutTo : Sp := fun vs H Q _ => ∃ (c : Int) (d : Addr) (x : Str) (n : Int) (l : Tb), vs = [.int c, .ref d, .str x, .int n] ∧ 0 < c ∧ H d = some (.dK (kv l)) ∧ l.length ≤ 1000000 ∧ ∀ H', But d H H' → H' d = some (.dK (kv (putQ c l x n))) → Q .non H'
abbrev nPutTo : List Str := ["_law_clock_here", "_law_bag", "_law_word", "_law_number", "_law_total"]
theorem sc_putTo : FnScope nPutTo ["_law_clock_here", "_law_bag", "_law_word", "_law_number"] (defScope s__law_put_to) := ⟨rfl, rfl, rfl, by decide +kernel, rfl, by decide +kernel, by decide +kernel⟩
theorem ok_putTo (T : Top K mg) : Ok P w K mg base 1 "_law_put_to" ["_law_clock_here", "_law_bag", "_law_word", "_law_number"] spPutTo := by
  obtain ⟨fd, F⟩ := fn__law_put_to T
  refine ⟨⟨fd, ?_, F.bindsN fun _ _ _ _ _ _ us hl => match us, hl with | [_, _, _, _], _ => rfl⟩, g__law_put_to T, F.kp⟩
  refine F.ok sc_putTo (fun vs H Q E h => ?_) (fun cdv A outer s H vs Q E hr h => ?_)
  · obtain ⟨c, d, x, n, l, rfl, _⟩ := h
    rfl
  · obtain ⟨c, d, x, n, l, rfl, hc, hd, hl, q⟩ := h
    have nd := sc_putTo.nd
    have hu := hu_of hr
    have hs : sizeLine = 16777216 := sizeLine_eq
    refine ⟨_, PSs.nox (pss_cons (ps_set (i := 4) nd rfl (Or.inl rfl) (pe_op op_mod (pe_callTy call_int1 (by rfl) (f_int T) boot_int (pa_cons (pe_op op_add (pe_dget2 hu (pv 1) (pv 2) pe_int ⟨rfl, rfl, rfl, rfl⟩) (pv 3)) pa_nil)) (pv 0)))
      (pss_cons (ps_expr (pe_dpop2 (pv 1) (pv 2) pe_int ⟨rfl, rfl, rfl, rfl⟩))
      (pss_one (ps_if (pt_cmpR op_gt (pv 4) pe_int (nomark _)) (pss_one (ps_dput hu (pv 1) (pv 2) (pv 4) rfl)) pss_nil)))), ?_⟩
    refine ⟨_, rfl, d, rfl, .inl ⟨_, .inl hd⟩, _, rfl, _, DGet.k (k := Sum.inr x) hd, ?_⟩
    rw [num_eq]
    refine ⟨_, rfl, _, _, rfl, rfl, .inl ⟨_, rfl, _, rfl, _, _, rfl, rfl, hc, ?_⟩⟩
    have rest : ∀ H1, But d H H1 → H1 d = some (.dK (kv (dropT l x))) → (tIfS (tTest (tOp (rI0 fun i j => .bl (decide (j < i))) (tVar 4) (tC (.int 0)))) (sDPut (tVar 1) (tVar 2) (tVar 4)) tNext) { nx := fun _ H' => Q .non H', rt := Q } [some (.int c), some (.ref d), some (.str x), some (.int n), some (.int ((num l x + n) % c))] H1 := fun H1 k1 e1 => by
      refine ⟨_, rfl, _, _, rfl, rfl, _, rfl, ?_⟩
      refine ite2 (fun hz => ?_) (fun hz => ?_)
      · have hz := of_decide_eq_true hz
        have hno : has (dropT l x) x = false := by
          cases z : has (dropT l x) x with
          | false => rfl
          | true =>
            obtain ⟨p, hp, e⟩ := List.mem_map.mp (has_iff.mp z)
            exact absurd e (mem_drop hp).2
        refine ⟨_, rfl, _, rfl, _, rfl, d, _, rfl, DPut.k (k := Sum.inr x) e1 (by rw [kv_len]; have := List.length_filter_le (fun p : Str × Int => decide (p.1 ≠ x)) l; show (dropT l x).length < sizeLine; unfold dropT; omega), ?_⟩
        refine q _ (k1.trans but_upd) ?_
        rw [upd_same, putK_kv]
        unfold putQ putT
        rw [if_pos hz, hno]
        rfl
      · have hz : ¬ 0 < (num l x + n) % c := fun z => hz (decide_eq_true z)
        refine q _ k1 ?_
        unfold putQ
        rw [if_neg hz]
        exact e1
    refine ⟨_, rfl, d, rfl, .inl ⟨_, .inl hd⟩, _, rfl, kv l, Sum.inr x, hd, rfl, fun v hv => ?_, fun hv => ?_⟩
    · exact rest _ but_upd (by rw [upd_same, dropK_kv])
    · refine rest _ (But.refl _ _) ?_
      have e : has l x = false := by
        cases z : has l x with
        | false => rfl
        | true =>
          rw [valV_yes z] at hv
          cases hv
      rw [dropT_no e]
      exact hd
def spLAdd : Sp := fun vs H Q _ => ∃ (c : Int) (d1 d2 : Addr) (f : Int) (m k1 k2 : Nat) (l1 l2 : Tb), vs = [.int c, .ref d1, .ref d2, .int f] ∧ isCk c ∧ H d1 = some (.dK (kv l1)) ∧ H d2 = some (.dK (kv l2)) ∧ VT c m k1 l1 ∧ VT c m k2 l2 ∧ k1 ≤ 100000 ∧ k2 ≤ 100000 ∧
  ∀ H' d t, Same H H' → H d = none → H' d = some (.dK (kv t)) → VT c m (k1 + k2) t → Lk c t (l1 ++ scl f l2) → Q (.ref d) H'
abbrev nLAdd : List Str := ["_law_clock_here", "_law_one", "_law_other", "_law_factor", "_law_found", "_law_word"]
theorem sc_ladd : FnScope nLAdd ["_law_clock_here", "_law_one", "_law_other", "_law_factor"] (defScope s__law_added) := ⟨rfl, rfl, rfl, by decide +kernel, rfl, by decide +kernel, by decide +kernel⟩
theorem ok_ladd (T : Top K mg) : Ok P w K mg base 2 "_law_added" ["_law_clock_here", "_law_one", "_law_other", "_law_factor"] spLAdd := by
  obtain ⟨fd, F⟩ := fn__law_added T
  refine ⟨⟨fd, ?_, F.bindsN fun _ _ _ _ _ _ us hl => match us, hl with | [_, _, _, _], _ => rfl⟩, g__law_added T, F.kp⟩
  refine F.ok sc_ladd (fun vs H Q E h => ?_) (fun cdv A outer s H vs Q E hr h => ?_)
  · obtain ⟨c, d1, d2, f, m, k1, k2, l1, l2, rfl, _⟩ := h
    rfl
  · obtain ⟨c, d1, d2, f, m, k1, k2, l1, l2, rfl, hck, h1, h2, v1, v2, hk1, hk2, q⟩ := h
    have nd := sc_ladd.nd
    have hu := hu_of hr
    have hs : sizeLine = 16777216 := sizeLine_eq
    obtain ⟨hc2, hc7⟩ := ck_range hck
    have hl2 := v2.ln
    refine ⟨_, PSs.nox (pss_cons (ps_set (i := 4) nd rfl (Or.inl rfl) (pe_callTy call_dictD (by rfl) (f_dict T) (by decide +kernel) (pa_cons (pv 1) pa_nil)))
      (pss_cons (ps_lock (ps_for PassesOwn.never rfl (pi_keys (pv 2)) (pg_name (i := 5) nd rfl (Or.inl rfl))
        (pss_one (ps_expr (pc (ok_putTo T) hr (pa_cons (pv 0) (pa_cons (pv 4) (pa_cons (pv 5) (pa_cons (pe_op op_mul (pv 3) (pe_dget hu (pv 2) (pv 5) (fun _ _ => rfl))) pa_nil)))))))))
      (pss_one (ps_ret (pv 4))))), ?_⟩
    refine ⟨_, rfl, d1, kv l1, rfl, .inl h1, fun F0 hF => ?_⟩
    have n2F : d2 ≠ F0 := ne_of_none h2 hF
    refine ⟨d2, .dK (kv l2), by rw [upd_ne n2F]; exact h2, trivial, fun od => ?_⟩
    refine ⟨_, rfl, d2, od, rfl, .inl ⟨kv l2, upd_same, ?_⟩⟩
    refine for_it walk_keys (fun i σ H' => (∃ v, σ = [some (.int c), some (.ref d1), some (.ref d2), some (.int f), some (.ref F0), v]) ∧ (∃ t, H' F0 = some (.dK (kv t)) ∧ VT c m (k1 + i) t ∧ Lk c t (l1 ++ scl f (l2.take i))) ∧ But d2 H H' ∧ H' d2 = some (.frz od (.dK (kv l2))))
      ⟨⟨none, rfl⟩, ⟨l1, ?_, v1, ?_⟩, ?_, upd_same⟩ (fun i σ H' _ hP => hP.2.2.2) ?_ ?_
    · rw [upd_ne n2F.symm, upd_same]
    · intro x
      show _ = tot (l1 ++ []) x % c
      rw [List.append_nil]
    · intro b o e n
      rw [upd_ne n, upd_ne (ne_of_none e hF)]
      exact e
    · rintro i x σ H1 H2 hi ⟨⟨v, rfl⟩, ⟨t, p1, vt, lt⟩, p2, p3⟩ ⟨rfl, k, v', e, rfl⟩
      obtain ⟨p, ep, rfl, rfl⟩ := kv_at e
      have hp : p ∈ l2 := List.mem_of_getElem? ep
      have hn := v2.nu p hp
      have hw := v2.wd p hp
      rw [kv_len] at hi
      refine ⟨_, rfl, _, rfl, _, rfl, _, rfl, _, rfl, _, rfl, d2, .int p.2, rfl, .inl ⟨kv l2, Sum.inr p.1, .inr ⟨od, p3⟩, rfl, ?_⟩, ?_⟩
      · rw [valV_yes (has_of ep), num_of v2.nd ep]
      · refine ⟨_, _, rfl, rfl, .inr ⟨by omega, by omega⟩, ?_⟩
        refine ⟨c, F0, p.1, f * p.2, t, rfl, by omega, p1, by have := vt.ln; omega, fun H3 k3 e3 => ?_⟩
        refine ⟨⟨_, rfl⟩, ⟨_, e3, vt_putQ vt (by omega) hw.1 hw.2 _, ?_⟩, ?_, ?_⟩
        · refine (lk_putQ (by omega) vt.nd _ _).trans ?_
          rw [scl_take' ep, ← List.append_assoc]
          exact lt.app (Lk.refl c _)
        · intro b o z n
          exact k3 b o (p2 b o z n) (ne_of_none z hF)
        · exact k3 _ _ p3 n2F
    · rintro σ H' ⟨⟨v, rfl⟩, ⟨t, p1, vt, lt⟩, p2, p3⟩
      rw [kv_len] at vt lt
      rw [List.take_length] at lt
      refine ⟨p3, ?_⟩
      refine ⟨_, rfl, ?_⟩
      exact q _ F0 t (unlockT h2 p2) hF (by rw [upd_ne n2F.symm]; exact p1) (vt.mono (Nat.le_refl _) (by omega)) lt
def spLProd : Sp := fun vs H Q _ => ∃ (c : Int) (d1 d2 : Addr) (m1 m2 k1 k2 : Nat) (l1 l2 : Tb), vs = [.int c, .ref d1, .ref d2] ∧ isCk c ∧ d1 ≠ d2 ∧ H d1 = some (.dK (kv l1)) ∧ H d2 = some (.dK (kv l2)) ∧ VT c m1 k1 l1 ∧ VT c m2 k2 l2 ∧ m1 ≤ 1000 ∧ m2 ≤ 1000 ∧ k1 ≤ 1000 ∧ k2 ≤ 900 ∧
  ∀ H' d t, Same H H' → H d = none → H' d = some (.dK (kv t)) → VT c (m1 + m2) (k1 * k2) t → Lk c t (prs l1 l2) → Q (.ref d) H'
abbrev nLProd : List Str := ["_law_clock_here", "_law_one", "_law_other", "_law_found", "_law_word", "_law_end"]
theorem sc_lprod : FnScope nLProd ["_law_clock_here", "_law_one", "_law_other"] (defScope s__law_product) := ⟨rfl, rfl, rfl, by decide +kernel, rfl, by decide +kernel, by decide +kernel⟩
theorem fwd_take {p : Str × Int} {l : Tb} {j : Nat} {q : Str × Int} (e : l[j]? = some q) : fwd p (l.take (j + 1)) = fwd p (l.take j) ++ [(p.1 ++ q.1, p.2 * q.2)] := by
  unfold fwd
  rw [List.take_add_one, e, List.map_append]
  rfl
theorem ok_lprod (T : Top K mg) : Ok P w K mg base 2 "_law_product" ["_law_clock_here", "_law_one", "_law_other"] spLProd := by
  obtain ⟨fd, F⟩ := fn__law_product T
  refine ⟨⟨fd, ?_, F.bindsN fun _ _ _ _ _ _ us hl => match us, hl with | [_, _, _], _ => rfl⟩, g__law_product T, F.kp⟩
  refine F.ok sc_lprod (fun vs H Q E h => ?_) (fun cdv A outer s H vs Q E hr h => ?_)
  · obtain ⟨c, d1, d2, m1, m2, k1, k2, l1, l2, rfl, _⟩ := h
    rfl
  · obtain ⟨c, d1, d2, m1, m2, k1, k2, l1, l2, rfl, hck, n12, h1, h2, v1, v2, hm1, hm2, hk1, hk2, q⟩ := h
    have nd := sc_lprod.nd
    have hu := hu_of hr
    have hs : sizeLine = 16777216 := sizeLine_eq
    obtain ⟨hc2, hc7⟩ := ck_range hck
    have hl1 := v1.ln
    have hl2 := v2.ln
    refine ⟨_, PSs.nox (pss_cons (ps_set (i := 3) nd rfl (Or.inl rfl) pe_dnewK)
      (pss_cons (ps_lock (ps_for PassesOwn.never rfl (pi_keys (pv 1)) (pg_name (i := 4) nd rfl (Or.inl rfl))
        (pss_one (ps_lock (ps_for PassesOwn.never rfl (pi_keys (pv 2)) (pg_name (i := 5) nd rfl (Or.inl rfl))
          (pss_one (ps_expr (pc (ok_putTo T) hr (pa_cons (pv 0) (pa_cons (pv 3) (pa_cons (pe_op op_add_str (pv 4) (pv 5)) (pa_cons (pe_op op_mul (pe_dget hu (pv 1) (pv 4) (fun _ _ => rfl)) (pe_dget hu (pv 2) (pv 5) (fun _ _ => rfl))) pa_nil))))))))))))
      (pss_one (ps_ret (pv 3))))), ?_⟩
    refine fun F0 hF => ?_
    have n1F : d1 ≠ F0 := ne_of_none h1 hF
    have n2F : d2 ≠ F0 := ne_of_none h2 hF
    refine ⟨d1, .dK (kv l1), by rw [upd_ne n1F]; exact h1, trivial, fun od => ?_⟩
    refine ⟨_, rfl, d1, od, rfl, .inl ⟨kv l1, upd_same, ?_⟩⟩
    refine for_it walk_keys (fun i σ H' => (∃ v u, σ = [some (.int c), some (.ref d1), some (.ref d2), some (.ref F0), v, u]) ∧ (∃ t, H' F0 = some (.dK (kv t)) ∧ VT c (m1 + m2) (i * k2) t ∧ Lk c t (prs (l1.take i) l2)) ∧ But d1 H H' ∧ H' d1 = some (.frz od (.dK (kv l1))))
      ⟨⟨none, none, rfl⟩, ⟨[], ?_, (vt_nil c _).mono (Nat.le_refl _) (Nat.zero_le _), Lk.refl c _⟩, ?_, upd_same⟩ (fun i σ H' _ hP => hP.2.2.2) ?_ ?_
    · rw [upd_ne n1F.symm, upd_same]
      rfl
    · intro b o e n
      rw [upd_ne n, upd_ne (ne_of_none e hF)]
      exact e
    · rintro i x σ H1 H2 hi ⟨⟨v, u, rfl⟩, ⟨t, p1, vt, lt⟩, p2, p3⟩ ⟨rfl, k, v', e, rfl⟩
      obtain ⟨p, ep, rfl, rfl⟩ := kv_at e
      have hp : p ∈ l1 := List.mem_of_getElem? ep
      have hil : i < l1.length := (List.getElem?_eq_some_iff.mp ep).1
      refine ⟨d2, .dK (kv l2), p2 _ _ h2 n12.symm, trivial, fun od2 => ?_⟩
      refine ⟨_, rfl, d2, od2, rfl, .inl ⟨kv l2, upd_same, ?_⟩⟩
      refine for_it walk_keys (fun j σ H' => (∃ u, σ = [some (.int c), some (.ref d1), some (.ref d2), some (.ref F0), some (.str p.1), u]) ∧ (∃ t, H' F0 = some (.dK (kv t)) ∧ VT c (m1 + m2) (i * k2 + j) t ∧ Lk c t (prs (l1.take i) l2 ++ fwd p (l2.take j))) ∧
          (∀ b o, H b = some o → b ≠ d1 → b ≠ d2 → H' b = some o) ∧ H' d1 = some (.frz od (.dK (kv l1))) ∧ H' d2 = some (.frz od2 (.dK (kv l2))))
        ⟨⟨u, rfl⟩, ⟨t, ?_, vt, ?_⟩, ?_, ?_, upd_same⟩ (fun i σ H' _ hP => hP.2.2.2.2) ?_ ?_
      · rw [upd_ne n2F.symm]
        exact p1
      · intro x
        show _ = tot (prs (l1.take i) l2 ++ []) x % c
        rw [List.append_nil]
        exact lt x
      · intro b o z na nb
        rw [upd_ne nb]
        exact p2 b o z na
      · rw [upd_ne n12]
        exact p3
      · rintro j x σ H3 H4 hj ⟨⟨u', rfl⟩, ⟨t', r1, vt', lt'⟩, r2, r3, r4⟩ ⟨rfl, k, v'', e', rfl⟩
        obtain ⟨q0, eq0, rfl, rfl⟩ := kv_at e'
        have hq : q0 ∈ l2 := List.mem_of_getElem? eq0
        have hn1 := v1.nu p hp
        have hn2 := v2.nu q0 hq
        have hw1 := v1.wd p hp
        have hw2 := v2.wd q0 hq
        rw [kv_len] at hj
        refine ⟨_, rfl, _, rfl, _, rfl, _, rfl, _, _, rfl, rfl, by have := hw1.2; have := hw2.2; omega, ?_⟩
        refine ⟨_, rfl, _, rfl, d1, .int p.2, rfl, .inl ⟨kv l1, Sum.inr p.1, .inr ⟨od, r3⟩, rfl, by rw [valV_yes (has_of ep), num_of v1.nd ep]⟩, ?_⟩
        refine ⟨_, rfl, _, rfl, d2, .int q0.2, rfl, .inl ⟨kv l2, Sum.inr q0.1, .inr ⟨od2, r4⟩, rfl, by rw [valV_yes (has_of eq0), num_of v2.nd eq0]⟩, ?_⟩
        refine ⟨_, _, rfl, rfl, .inl ⟨by omega, by omega⟩, ?_⟩
        have hb : i * k2 + j ≤ 1000000 := by
          have : i * k2 ≤ 1000 * 900 := Nat.mul_le_mul (by omega) hk2
          omega
        refine ⟨c, F0, p.1 ++ q0.1, p.2 * q0.2, t', rfl, by omega, r1, by have := vt'.ln; omega, fun H5 k5 e5 => ?_⟩
        refine ⟨⟨_, rfl⟩, ⟨_, e5, vt_putQ vt' (by omega) (xyz_app hw1.1 hw2.1) (by rw [app_len]; have := hw1.2; have := hw2.2; omega) _, ?_⟩, ?_, k5 _ _ r3 n1F, k5 _ _ r4 n2F⟩
        · refine (lk_putQ (by omega) vt'.nd _ _).trans ?_
          rw [fwd_take eq0, ← List.append_assoc]
          exact lt'.app (Lk.refl c _)
        · intro b o z na nb
          exact k5 b o (r2 b o z na nb) (ne_of_none z hF)
      · rintro σ H3 ⟨⟨u', rfl⟩, ⟨t', r1, vt', lt'⟩, r2, r3, r4⟩
        rw [kv_len] at vt' lt'
        rw [List.take_length] at lt'
        refine ⟨r4, ⟨_, _, rfl⟩, ⟨t', ?_, vt'.mono (Nat.le_refl _) (by rw [Nat.succ_mul]; omega), ?_⟩, ?_, ?_⟩
        · rw [upd_ne n2F.symm]
          exact r1
        · rw [prs_take ep]
          exact lt'
        · intro b o z na
          by_cases nb : b = d2
          · rw [nb, upd_same, ← h2, ← nb, z]
          · rw [upd_ne nb]
            exact r2 b o z na nb
        · rw [upd_ne n12]
          exact r3
    · rintro σ H' ⟨⟨v, u, rfl⟩, ⟨t, p1, vt, lt⟩, p2, p3⟩
      rw [kv_len] at vt lt
      rw [List.take_length] at lt
      refine ⟨p3, ?_⟩
      refine ⟨_, rfl, ?_⟩
      exact q _ F0 t (unlockT h1 p2) hF (by rw [upd_ne n1F.symm]; exact p1) (vt.mono (Nat.le_refl _) (Nat.mul_le_mul_right _ hl1)) lt
end
end Fp

set_option Elab.async false
set_option linter.all false
set_option maxRecDepth 100000
set_option maxHeartbeats 4000000
namespace Fp
open PySem PySem.Spec PyProof.Rows L2
theorem hd_eq (l : Tb) : hdW l = ((l.map (·.1)).mergeSort leR).headD "" := rfl
section
variable {P : Program} {w : World} {K : PySem.W.Frag} {mg : Str → Option Value} {base : Heap}
def spLSize : Sp := fun vs H Q _ => ∃ (d : Addr) (n : Nat) (l : Tb), vs = [.ref d] ∧ H d = some (.dK (kv l)) ∧ l ≠ [] ∧ Lev n l ∧ n ≤ 1000 ∧ l.length ≤ 1000 ∧ ∀ H', Same H H' → Q (.int n) H'
abbrev nLSize : List Str := ["_law_bag", "_law_word"]
theorem sc_lsize : FnScope nLSize ["_law_bag"] (defScope s__law_size) := ⟨rfl, rfl, rfl, by decide +kernel, rfl, by decide +kernel, by decide +kernel⟩
theorem ok_lsize (T : Top K mg) : Ok P w K mg base 1 "_law_size" ["_law_bag"] spLSize := by
  obtain ⟨fd, F⟩ := fn__law_size T
  refine ⟨⟨fd, ?_, F.bindsN fun _ _ _ _ _ _ us hl => match us, hl with | [_], _ => rfl⟩, g__law_size T, F.kp⟩
  refine F.ok sc_lsize (fun vs H Q E h => ?_) (fun cdv A outer s H vs Q E hr h => ?_)
  · obtain ⟨d, n, l, rfl, _⟩ := h
    rfl
  · obtain ⟨d, n, l, rfl, hd, hne, hl, hn, hk, q⟩ := h
    have nd := sc_lsize.nd
    have hs : sizeLine = 16777216 := sizeLine_eq
    refine ⟨_, PSs.nox (pss_one (ps_ret (pe_callB (cr_max rfl) (by rfl) (f_max T) (by decide +kernel) (pa_cons (pe_op op_cat (pe_lst (pa_cons (pe_un un_neg pe_int) pa_nil)) (pe_lock (pe_lc (own := [("_law_word", 1)]) (g := gName 1) (tt := tYes) rfl nd (pi_keys (pv 0)) (blkOk_by (N := nLSize) (sc := defScope s__law_size) (by decide +kernel))
      (fun _ _ _ _ _ => pg_name (i := 1) nd rfl (Or.inl rfl)) (fun _ _ _ _ _ => by exact pts_nil) (fun _ _ _ _ _ => by exact pe_callB call_len_str (by rfl) (f_len T) PySem.boot_len (pa_cons (pv 1) pa_nil))))) pa_nil)))), ?_⟩
    refine ⟨_, rfl, by show 1 ≤ sizeLine; omega, fun A0 nA => ?_⟩
    have sA := same_upd (o := .lst [.int (-1)]) nA
    have eA := upd_same (H := H) (a := A0) (o := HO.lst [.int (-1)])
    have hd1 := sA _ _ hd
    generalize upd H A0 (.lst [.int (-1)]) = H1 at sA eA hd1 ⊢
    refine ⟨d, _, hd1, trivial, fun od => ?_⟩
    refine ⟨_, rfl, d, od, rfl, .inl ⟨kv l, upd_same, fun D hD => ?_⟩⟩
    have nD : D ≠ d := fun e => by
      rw [e, upd_same] at hD
      cases hD
    have hD0 : H1 D = none := by
      rw [upd_ne nD] at hD
      exact hD
    refine lc_it walk_keys (fun i H' => H' D = some (.lst ((List.replicate i (n : Int)).map V.int)) ∧ But d H1 H' ∧ H' d = some (.frz od (.dK (kv l)))) ⟨upd_same, (fun b o e n => by
        rw [upd_ne (ne_of_none e hD0), upd_ne n]
        exact e), (by rw [upd_ne nD.symm]; exact upd_same)⟩ (fun i H' _ hP => hP.2.2) ?_ ?_
    · rintro i x Ha Hb hi ⟨r1, r2, r3⟩ ⟨rfl, kk, vv, ee, rfl⟩
      obtain ⟨p, ep, rfl, rfl⟩ := kv_at ee
      have hpl := hl p (List.mem_of_getElem? ep)
      rw [kv_len] at hi
      refine ⟨rfl, ?_⟩
      refine ⟨_, rfl, p.1, rfl, by omega, _, r1, by rw [List.length_map, List.length_replicate]; omega, ?_, ?_, ?_⟩
      · rw [upd_same, List.replicate_succ', List.map_append, hpl]
        rfl
      · intro b o e n
        rw [upd_ne (ne_of_none e hD0)]
        exact r2 b o e n
      · rw [upd_ne nD.symm]
        exact r3
    rintro H2 ⟨r1, r2, r3⟩
    rw [kv_len] at r1
    refine ⟨r3, ?_⟩
    have s2 := unlockT hd1 r2
    have eD : (upd H2 d (.dK (kv l))) D = some (.lst ((List.replicate l.length (n : Int)).map V.int)) := by
      rw [upd_ne nD]
      exact r1
    have eA2 := s2 _ _ eA
    generalize upd H2 d (.dK (kv l)) = H3 at s2 eD eA2 ⊢
    refine ⟨A0, D, [.int (-1)], _, rfl, rfl, eA2, eD, by rw [List.length_map, List.length_replicate]; show 1 + l.length ≤ _; omega, fun p np => ?_⟩
    have s4 := same_upd (o := .lst ([.int (-1)] ++ (List.replicate l.length (n : Int)).map V.int)) np
    refine ⟨p, (-1) :: List.replicate l.length (n : Int), rfl, SqL.of upd_same, by simp, fun mm hm hle => ?_⟩
    have hlp : 0 < l.length := List.length_pos_iff.mpr hne
    have h1 := hle n (List.mem_cons_of_mem _ (List.mem_replicate.mpr ⟨by omega, rfl⟩))
    have h2 : mm = n := by
      rcases List.mem_cons.mp hm with e | e
      · omega
      · exact (List.mem_replicate.mp e).2
    rw [h2]
    exact q _ ((sA.trans s2).trans s4)
def spLLead : Sp := fun vs H Q _ => ∃ (d : Addr) (l : Tb), vs = [.ref d] ∧ H d = some (.dK (kv l)) ∧ l ≠ [] ∧ (∀ p ∈ l, p.1.length ≤ 1000) ∧ ∀ H', Same H H' → Q (.str (hdW l)) H'
theorem sc_llead : FnScope ["_law_bag"] ["_law_bag"] (defScope s__law_lead) := ⟨rfl, rfl, rfl, by decide +kernel, rfl, by decide +kernel, by decide +kernel⟩
theorem ok_llead (T : Top K mg) : Ok P w K mg base 2 "_law_lead" ["_law_bag"] spLLead := by
  obtain ⟨fd, F⟩ := fn__law_lead T
  obtain ⟨fdR, FR⟩ := fn__law_key T
  refine ⟨⟨fd, ?_, F.bindsN fun _ _ _ _ _ _ us hl => match us, hl with | [_], _ => rfl⟩, g__law_lead T, F.kp⟩
  refine F.ok sc_llead (fun vs H Q E h => ?_) (fun cdv A outer s H vs Q E hr h => ?_)
  · obtain ⟨d, l, rfl, _⟩ := h
    rfl
  · obtain ⟨d, l, rfl, hd, hne, hw, q⟩ := h
    have hs : sizeLine = 16777216 := sizeLine_eq
    refine ⟨_, PSs.nox (pss_one (ps_ret (pe_ix ix_list (pe_callBK (cr_sortKy rfl FR (f_len T) hr) (by rfl) (f_sorted T) (by decide +kernel) (pa_cons (pe_callTy (call_listD rfl) (by rfl) (f_list T) (by decide +kernel) (pa_cons (pv 0) pa_nil)) pa_nil) (pk_cons (pe_glob (v := .ref (He.ga K "_law_key")) rfl (g__law_key T) rfl) pk_nil)) pe_int (fun _ _ => rfl)))), ?_⟩
    refine ⟨_, rfl, d, kv l, rfl, .inl hd, fun A0 nA => ?_⟩
    have ek : ((kv l).map fun kv => kV kv.1) = (l.map (·.1)).map V.str := by
      unfold kv
      rw [List.map_map, List.map_map]
      rfl
    rw [ek]
    have sA := same_upd (o := .lst ((l.map (·.1)).map V.str)) nA
    refine ⟨A0, l.map (·.1), rfl, rfl, SqL.of upd_same, fun x hx => ?_, fun B0 nB => ?_⟩
    · obtain ⟨p, hp, rfl⟩ := List.mem_map.mp hx
      have := hw p hp
      omega
    have sB := same_upd (o := .lst (((l.map (·.1)).mergeSort leR).map V.str)) nB
    have hlen := ordW_len l
    have hpos : 0 < l.length := List.length_pos_iff.mpr hne
    have e0 : (((l.map (·.1)).mergeSort leR).map V.str)[0]? = some (V.str (hdW l)) := by
      rw [hd_eq, List.getElem?_map]
      cases e : (l.map (·.1)).mergeSort leR with
      | nil =>
        have : (ordW l).length = 0 := by
          show ((l.map (·.1)).mergeSort leR).length = 0
          rw [e]
          rfl
        omega
      | cons x r => rfl
    exact ⟨B0, _, 0, _, rfl, rfl, SqL.of upd_same, atI_nat (j := 0) e0, q _ (sA.trans sB)⟩
def spLInv : Sp := fun vs H Q _ => ∃ (c n : Int), vs = [.int c, .int n] ∧ isCk c ∧ n % c ≠ 0 ∧ 0 ≤ n ∧ n < 8 ∧ ∀ H' (j : Int), Same H H' → (j * n) % c = 1 → 1 ≤ j → j < c → Q (.int j) H'
abbrev nLInv : List Str := ["_law_clock_here", "_law_number", "_law_k"]
theorem sc_linv : FnScope nLInv ["_law_clock_here", "_law_number"] (defScope s__law_inverse) := ⟨rfl, rfl, rfl, by decide +kernel, rfl, by decide +kernel, by decide +kernel⟩
/-- the numbers from 1 that n makes 1 -/
def invL (c n : Int) (i : Nat) : List Int := ((List.range i).map fun k => (1 : Int) + (k : Nat)).filter fun k => decide ((k * n) % c = 1)
theorem invL_succ (c n : Int) (i : Nat) : invL c n (i + 1) = if ((1 + (i : Int)) * n) % c = 1 then invL c n i ++ [1 + (i : Int)] else invL c n i := by
  unfold invL
  rw [List.range_succ, List.map_append, List.filter_append]
  by_cases h : ((1 + (i : Int)) * n) % c = 1
  · rw [if_pos h]
    have : List.filter (fun k => decide ((k * n) % c = 1)) (List.map (fun k => (1 : Int) + (k : Nat)) [i]) = [1 + (i : Int)] := List.filter_cons_of_pos (by simpa using h)
    rw [this]
  · rw [if_neg h]
    have : List.filter (fun k => decide ((k * n) % c = 1)) (List.map (fun k => (1 : Int) + (k : Nat)) [i]) = [] := List.filter_cons_of_neg (by simpa using h)
    rw [this, List.append_nil]
theorem invL_len (c n : Int) (i : Nat) : (invL c n i).length ≤ i := by
  unfold invL
  refine Nat.le_trans (List.length_filter_le _ _) ?_
  rw [List.length_map, List.length_range]
  exact Nat.le_refl _
theorem invL_mem {c n j : Int} {i : Nat} (h : j ∈ invL c n i) : (j * n) % c = 1 ∧ 1 ≤ j ∧ j ≤ i := by
  obtain ⟨h1, h2⟩ := List.mem_filter.mp h
  obtain ⟨k, hk, rfl⟩ := List.mem_map.mp h1
  have := List.mem_range.mp hk
  exact ⟨of_decide_eq_true h2, by omega, by omega⟩
theorem invL_ne {c n : Int} (hc : isCk c) (hn : n % c ≠ 0) : invL c n (c - 1).toNat ≠ [] := by
  obtain ⟨hc2, hc7⟩ := ck_range hc
  obtain ⟨m, k, hk⟩ := ck_unit hc hn
  have h0 := Int.emod_nonneg m (show c ≠ 0 by omega)
  have h1 := Int.emod_lt_of_pos m (show 0 < c by omega)
  have e : (m % c * n) % c = 1 := by
    rw [Int.mul_emod, Int.emod_emod_of_dvd _ (Int.dvd_refl c), ← Int.mul_emod]
    have : m * n = 1 + c * k := by
      rw [Int.mul_comm]
      omega
    rw [this, Int.add_mul_emod_self_left]
    exact Int.emod_eq_of_lt (by decide) (by omega)
  have hpos : m % c ≠ 0 := fun z => by
    rw [z, Int.zero_mul, Int.zero_emod] at e
    cases e
  intro hnil
  have : m % c ∈ invL c n (c - 1).toNat := by
    refine List.mem_filter.mpr ⟨List.mem_map.mpr ⟨(m % c - 1).toNat, List.mem_range.mpr (by omega), by omega⟩, decide_eq_true e⟩
  rw [hnil] at this
  cases this
theorem ok_linv (T : Top K mg) : Ok P w K mg base 1 "_law_inverse" ["_law_clock_here", "_law_number"] spLInv := by
  obtain ⟨fd, F⟩ := fn__law_inverse T
  refine ⟨⟨fd, ?_, F.bindsN fun _ _ _ _ _ _ us hl => match us, hl with | [_, _], _ => rfl⟩, g__law_inverse T, F.kp⟩
  refine F.ok sc_linv (fun vs H Q E h => ?_) (fun cdv A outer s H vs Q E hr h => ?_)
  · obtain ⟨c, n, rfl, _⟩ := h
    rfl
  · obtain ⟨c, n, rfl, hck, hn, hn0, hn8, q⟩ := h
    have nd := sc_linv.nd
    have hs : sizeLine = 16777216 := sizeLine_eq
    obtain ⟨hc2, hc7⟩ := ck_range hck
    refine ⟨_, PSs.nox (pss_one (ps_ret (pe_ix ix_list (pe_lc (own := [("_law_k", 2)]) (g := gName 2) (te := tVar 2) rfl nd (pi_range2 (by rfl) (f_range T) (pa_cons pe_int (pa_cons (pv 0) pa_nil))) (blkOk_by (N := nLInv) (sc := defScope s__law_inverse) (by decide +kernel))
      (fun _ _ _ _ _ => pg_name (i := 2) nd rfl (Or.inl rfl)) (fun _ _ _ _ _ => by exact pts_one (pt_cmpR op_eq (pe_op op_mod (pe_callTy call_int1 (by rfl) (f_int T) boot_int (pa_cons (pe_op op_mul (pv 2) (pv 1)) pa_nil)) (pv 0)) pe_int (nomark _))) (fun _ _ _ _ _ => by exact pv 2)) pe_int (fun _ _ => rfl)))), ?_⟩
    refine ⟨_, rfl, 1, c, rfl, ⟨by decide, by decide, by omega, by omega⟩, fun D hD => ?_⟩
    refine lc_it walk_range (fun i H' => H' D = some (.lst ((invL c n i).map V.int)) ∧ Same H H') ⟨upd_same, same_upd hD⟩ (fun _ _ _ _ => trivial) ?_ ?_
    · rintro i x G1 G2 hi ⟨p1, p2⟩ ⟨rfl, rfl⟩
      refine ⟨rfl, ?_⟩
      have hi7 : i < 7 := by omega
      refine ⟨_, rfl, _, rfl, _, _, rfl, rfl, .inl ⟨by omega, by omega⟩, .inl ⟨_, rfl, _, rfl, _, _, rfl, rfl, by omega, rfl, _, rfl, ?_⟩⟩
      have es := invL_succ c n i
      show if decide (V.int (((1 + (i : Int)) * n) % c) = V.int 1) = true then _ else _
      by_cases hz : ((1 + (i : Int)) * n) % c = 1
      · rw [decide_eq_true (show V.int (((1 + (i : Int)) * n) % c) = V.int 1 by rw [hz])]
        rw [if_pos hz] at es
        refine iteT ?_
        have := invL_len c n i
        refine ⟨_, rfl, _, p1, by rw [List.length_map]; omega, ?_, fun b' o' y => ?_⟩
        · rw [upd_same, es, List.map_append]
          rfl
        · rw [upd_ne (ne_of_none y hD)]
          exact p2 _ _ y
      · rw [decide_eq_false (fun z : V.int _ = V.int 1 => hz (by injection z))]
        rw [if_neg hz] at es
        refine iteF ⟨?_, p2⟩
        rw [es]
        exact p1
    rintro G ⟨p1, p2⟩
    have hne := invL_ne hck hn
    cases hL : invL c n (c - 1).toNat with
    | nil => exact absurd hL hne
    | cons j r =>
      rw [hL] at p1
      obtain ⟨h1, h2, h3⟩ := invL_mem (c := c) (n := n) (i := (c - 1).toNat) (j := j) (by rw [hL]; exact List.mem_cons_self)
      exact ⟨D, _, 0, _, rfl, rfl, SqL.of p1, atI_nat (j := 0) rfl, q G j p2 h1 h2 (by omega)⟩
def spLPlain : Sp := fun vs H Q _ => ∃ (c : Int) (d : Addr) (m k : Nat) (l : Tb), vs = [.int c, .ref d] ∧ isCk c ∧ H d = some (.dK (kv l)) ∧ VT c m k l ∧ l ≠ [] ∧ m ≤ 1000 ∧ k ≤ 1000 ∧
  ∀ H' e t j, Same H H' → H e = none → H' e = some (.dK (kv t)) → VT c m k t → Lk c t (scl j l) → (j * num l (hdW l)) % c = 1 → 1 ≤ j → j < c → Q (.ref e) H'
theorem sc_lplain : FnScope ["_law_clock_here", "_law_bag"] ["_law_clock_here", "_law_bag"] (defScope s__law_plain) := ⟨rfl, rfl, rfl, by decide +kernel, rfl, by decide +kernel, by decide +kernel⟩
theorem ok_lplain (T : Top K mg) : Ok P w K mg base 3 "_law_plain" ["_law_clock_here", "_law_bag"] spLPlain := by
  obtain ⟨fd, F⟩ := fn__law_plain T
  refine ⟨⟨fd, ?_, F.bindsN fun _ _ _ _ _ _ us hl => match us, hl with | [_, _], _ => rfl⟩, g__law_plain T, F.kp⟩
  refine F.ok sc_lplain (fun vs H Q E h => ?_) (fun cdv A outer s H vs Q E hr h => ?_)
  · obtain ⟨c, d, m, k, l, rfl, _⟩ := h
    rfl
  · obtain ⟨c, d, m, k, l, rfl, hck, hd, v, hne, hm, hk, q⟩ := h
    have hu := hu_of hr
    have hr1 : Room 1 _ := hr.mono (by decide)
    obtain ⟨hc2, hc7⟩ := ck_range hck
    have hp := num_pos v (hd_first hne).1
    refine ⟨_, PSs.nox (pss_one (ps_ret (pc (ok_ladd T) hr (pa_cons (pv 0) (pa_cons pe_dnewK (pa_cons (pv 1) (pa_cons (pc (ok_linv T) hr1 (pa_cons (pv 0) (pa_cons (pe_dget hu (pv 1) (pc (ok_llead T) hr (pa_cons (pv 1) pa_nil)) (fun _ _ => rfl)) pa_nil))) pa_nil))))))), ?_⟩
    refine ⟨_, rfl, fun A0 nA => ?_⟩
    have sA := same_upd (o := .dK []) nA
    have eA := upd_same (H := H) (a := A0) (o := HO.dK [])
    have hd1 := sA _ _ hd
    generalize upd H A0 (.dK []) = H1 at sA eA hd1 ⊢
    refine ⟨_, rfl, _, rfl, _, rfl, _, rfl, d, l, rfl, hd1, hne, fun p hp => Nat.le_trans (v.wd p hp).2 hm, fun H2 s2 => ?_⟩
    have hd2 := s2 _ _ hd1
    refine ⟨d, .int (num l (hdW l)), rfl, .inl ⟨kv l, Sum.inr (hdW l), .inl hd2, rfl, by rw [valV_yes (has_iff.mpr (hd_first hne).1)]⟩, ?_⟩
    refine ⟨c, num l (hdW l), rfl, hck, not_dvd hp.1 hp.2, by omega, by omega, fun H3 j s3 hj hj1 hjc => ?_⟩
    refine ⟨c, A0, d, j, m, 0, k, [], l, rfl, hck, s3 _ _ (s2 _ _ eA), s3 _ _ hd2, vt_nil c m, v, by omega, by omega, fun H4 e t s4 ne4 et vt lt => ?_⟩
    exact q H4 e t j (((sA.trans s2).trans s3).trans s4) (((sA.trans s2).trans s3).free ne4) et (vt.mono (Nat.le_refl _) (by omega)) lt hj hj1 hjc
def spLDict (K : PySem.W.Frag) : Sp := fun vs H Q _ => ∃ (a : Addr) (c : Int) (L : Tb), vs = [.ref a] ∧ BagAt K H a c L ∧ Nd L ∧ ∀ H' D, Same H H' → H D = none → H' D = some (.dK (kv L)) → Q (.ref D) H'
theorem sc_ldict : FnScope ["_law_bag"] ["_law_bag"] (defScope s__law_dict) := ⟨rfl, rfl, rfl, by decide +kernel, rfl, by decide +kernel, by decide +kernel⟩
theorem ok_ldict (T : Top K mg) : Ok P w K mg base 1 "_law_dict" ["_law_bag"] (spLDict K) := by
  obtain ⟨fd, F⟩ := fn__law_dict T
  refine ⟨⟨fd, ?_, F.bindsN fun _ _ _ _ _ _ us hl => match us, hl with | [_], _ => rfl⟩, g__law_dict T, F.kp⟩
  refine F.ok sc_ldict (fun vs H Q E h => ?_) (fun cdv A outer s H vs Q E hr h => ?_)
  · obtain ⟨a, c, L, rfl, _⟩ := h
    rfl
  · obtain ⟨a, c, L, rfl, ⟨dx, t, ea, wt⟩, hnd, q⟩ := h
    obtain ⟨ps, o, h1, _, h3⟩ := id wt
    refine ⟨_, PSs.nox (pss_one (ps_ret (pe_callTy (call_dictP rfl) (by rfl) (f_dict T) (by decide +kernel) (pa_cons (pe_callTy call_list_of (by rfl) (f_list T) (by decide +kernel) (pa_cons (pe_fld (pv 0) rfl) pa_nil)) pa_nil)))), ?_⟩
    refine ⟨_, rfl, a, _, dx, _, _, rfl, ea, cls_Bag T, na_Bag_words T, flds_words _ _, ?_⟩
    refine ⟨t, _, rfl, .inr (.inl (.inr ⟨o, h1⟩)), fun A0 nA => ?_⟩
    have sA := same_upd (o := .lst (ps.map V.ref)) nA
    refine ⟨A0, ps, kv L, rfl, SqL.of upd_same, pairs_kv (Paired.mapP h3 fun p q e => sA _ _ e), fun D nD => ?_⟩
    have sD := same_upd (o := .dK (mergeK [] (kv L))) nD
    rw [merge_kv hnd] at sD ⊢
    exact q _ D (sA.trans sD) (sA.free nD) upd_same
end
end Fp

set_option Elab.async false
set_option linter.all false
set_option maxRecDepth 100000
set_option maxHeartbeats 4000000
namespace Fp
open PySem PySem.Spec PyProof.Rows L2
def crq (c : Int) (l : Tb) (a b d e : Str) : Prop := (num l (a ++ d) * num l (b ++ e) - num l (a ++ e) * num l (b ++ d)) % c ≠ 0
def CrsB (c : Int) (s : Nat) (l : Tb) : Prop := ∃ a b d e, a ∈ l.map (fun p => fw s p.1) ∧ b ∈ l.map (fun p => fw s p.1) ∧ d ∈ l.map (fun p => bw s p.1) ∧ e ∈ l.map (fun p => bw s p.1) ∧ crq c l a b d e
theorem num_small {c : Int} {m k : Nat} {l : Tb} (hc : isCk c) (v : VT c m k l) (x : Str) : 0 ≤ num l x ∧ num l x < 7 := by
  obtain ⟨h1, h2⟩ := ck_range hc
  have := num_rg (show 0 < c by omega) (fun p hp => ⟨by have := (v.nu p hp).1; omega, (v.nu p hp).2⟩) x (t := l)
  omega
theorem mem_snoc {α : Type} {xs : List α} {i : Nat} {x y : α} (e : xs[i]? = some x) : y ∈ xs.take (i + 1) ↔ y ∈ xs.take i ∨ y = x := by
  rw [List.take_add_one, e]
  simp
section
variable {P : Program} {w : World} {K : PySem.W.Frag} {mg : Str → Option Value} {base : Heap}
def spLLevel : Sp := fun vs H Q _ => ∃ (h ca : Addr) (c : Int) (most : Nat), vs = [.ref h, .int c, .int most] ∧ HandAt ca H h ∧ isCk c ∧ most ≤ 100 ∧
  ∀ H' d n l, HandAt ca H' h → But h H H' → H d = none → H' d = some (.dK (kv l)) → VT c n 3 l → l ≠ [] → Lev n l → n ≤ most → Q (.ref d) H'
abbrev nLLevel : List Str := ["_law_hand_here", "_law_clock_here", "_law_most", "_law_letters", "_law_found", "_law_turn", "_law_word", "_law_k"]
theorem sc_llevel : FnScope nLLevel ["_law_hand_here", "_law_clock_here", "_law_most"] (defScope s__law_level) := ⟨rfl, rfl, rfl, by decide +kernel, rfl, by decide +kernel, by decide +kernel⟩
theorem ok_llevel (T : Top K mg) : Ok P w K mg base 3 "_law_level" ["_law_hand_here", "_law_clock_here", "_law_most"] spLLevel := by
  obtain ⟨fd, F⟩ := fn__law_level T
  refine ⟨⟨fd, ?_, F.bindsN fun _ _ _ _ _ _ us hl => match us, hl with | [_, _, _], _ => rfl⟩, g__law_level T, F.kp⟩
  refine F.ok sc_llevel (fun vs H Q E h => ?_) (fun cdv A outer s H vs Q E hr h => ?_)
  · obtain ⟨h, ca, c, most, rfl, _⟩ := h
    rfl
  · obtain ⟨h, ca, c, most, rfl, hh, hck, hmost, q⟩ := h
    have nd := sc_llevel.nd
    have hu := hu_of hr
    have hs : sizeLine = 16777216 := sizeLine_eq
    have hr1 : Room 1 _ := hr.mono (by decide)
    obtain ⟨hc2, hc7⟩ := ck_range hck
    refine ⟨_, PSs.nox (pss_cons (ps_set (i := 3) nd rfl (Or.inl rfl) (pc (ok_draw T) hr1 (pa_cons (pv 0) (pa_cons (pe_op op_add (pv 2) pe_int) pa_nil))))
      (pss_cons (ps_set (i := 4) nd rfl (Or.inl rfl) pe_dnewK)
      (pss_cons (ps_for PassesOwn.never rfl (pi_range1 (by rfl) (f_range T) (pa_cons (pe_op op_add pe_int (pc (ok_draw T) hr1 (pa_cons (pv 0) (pa_cons pe_int pa_nil)))) pa_nil)) (pg_name (i := 5) nd rfl (Or.inl rfl))
        (pss_cons (ps_set (i := 6) nd rfl (Or.inl rfl) (pe_join pe_str (pe_lc (te := tCall spSomeS [] E0 (tCons (tVar 0) (tCons (tC (.str "xxyyz")) tNil))) (own := [("_law_k", 7)]) (g := gName 7) (tt := tYes) rfl nd (pi_range1 (by rfl) (f_range T) (pa_cons (pv 3) pa_nil)) (blkOk_by (N := nLLevel) (sc := defScope s__law_level) (by decide +kernel)) (fun _ _ _ _ _ => pg_name (i := 7) nd rfl (Or.inl rfl)) (fun _ _ _ _ _ => by exact pts_nil) (fun _ _ _ _ _ => by exact pc (ok_someS T) hr (pa_cons (pv 0) (pa_cons pe_str pa_nil))))))
        (pss_one (ps_dput hu (pv 4) (pv 6) (pe_op op_add pe_int (pc (ok_draw T) hr1 (pa_cons (pv 0) (pa_cons (pe_op op_sub (pv 1) pe_int) pa_nil)))) rfl))))
      (pss_one (ps_ret (pv 4)))))), ?_⟩
    refine ⟨_, rfl, _, rfl, _, _, rfl, rfl, h, ca, (most : Int) + 1, rfl, by omega, by omega, hh, fun r H1 z1 z2 hh1 k1 => ?_⟩
    obtain ⟨n, rfl⟩ : ∃ n : Nat, r = n := ⟨r.toNat, (Int.toNat_of_nonneg z1).symm⟩
    have hnm : n ≤ most := by omega
    clear z1 z2
    refine fun d nd0 => ?_
    have ndh : d ≠ h := by
      obtain ⟨xs, hx⟩ := hh1.lst
      exact (ne_of_none hx nd0).symm
    have ndc : d ≠ ca := by
      obtain ⟨xs, hx⟩ := hh1.cells
      exact (ne_of_none hx nd0).symm
    have hd0 : H d = none := by
      cases z : H d with
      | none => rfl
      | some u =>
        rw [k1 d u z ndh] at nd0
        cases nd0
    have ed0 := upd_same (H := H1) (a := d) (o := HO.dK [])
    have kb : But h H (upd H1 d (.dK [])) := fun b o e n => by
      rw [upd_ne (ne_of_none e hd0)]
      exact k1 b o e n
    have hh2 := hh1.same (same_upd (o := .dK []) nd0)
    generalize upd H1 d (.dK []) = H2 at ed0 kb hh2 ⊢
    refine ⟨_, rfl, h, ca, 3, rfl, by decide, by decide, hh2, fun r H3 z1 z2 hh3 k3 => ?_⟩
    refine ⟨_, _, rfl, rfl, 1 + r, rfl, by omega, by omega, ?_⟩
    refine for_it walk_range (fun i σ H' => (∃ y5 y6 y7, σ = [some (.ref h), some (.int c), some (.int (most : Nat)), some (.int (n : Nat)), some (.ref d), y5, y6, y7]) ∧ (∃ l, H' d = some (.dK (kv l)) ∧ VT c n i l ∧ Lev n l ∧ (0 < i → l ≠ [])) ∧ HandAt ca H' h ∧ But h H H')
      ⟨⟨_, _, _, rfl⟩, ⟨[], k3 _ _ ed0 ndh, vt_nil c n, (fun p hp => by cases hp), fun y => absurd y (Nat.lt_irrefl 0)⟩, hh3, kb.trans k3⟩ (fun _ _ _ _ _ => trivial) ?_ ?_
    · rintro j y σ J0 J0' hj ⟨⟨y5, y6, y7, rfl⟩, ⟨l, p1, p2, p3, p4⟩, p5, p6⟩ ⟨rfl, rfl⟩
      refine ⟨⟨_, rfl⟩, ?_⟩
      refine ⟨_, rfl, (n : Int), rfl, by omega, by omega, fun D hD => ?_⟩
      have nhD : h ≠ D := by
        obtain ⟨xs, hx⟩ := p5.lst
        exact ne_of_none hx hD
      have ncD : ca ≠ D := by
        obtain ⟨xs, hx⟩ := p5.cells
        exact ne_of_none hx hD
      refine lc_it walk_range (fun i H' => (∃ ys : List Str, H' D = some (.lst (ys.map V.str)) ∧ ys.length = i ∧ ∀ y ∈ ys, ∃ c, y = ⟨#[c]⟩ ∧ (c = 120 ∨ c = 121 ∨ c = 122)) ∧ HandAt ca H' h ∧ But h J0' H')
        ⟨⟨[], upd_same, rfl, fun y hy => (by cases hy)⟩, p5.same (same_upd hD), But.of (same_upd hD)⟩ (fun _ _ _ _ => trivial) ?_ ?_
      · rintro i x G1 G2 hi ⟨⟨ys, w1, w2, w3⟩, w4, w5⟩ ⟨rfl, rfl⟩
        refine ⟨rfl, ?_⟩
        refine ⟨_, rfl, h, ca, rfl, w4, fun G3 b g3 kk3 hb => ?_⟩
        refine ⟨_, kk3 _ _ w1 nhD.symm, ?_, ⟨ys ++ [⟨#[b]⟩], ?_, ?_, ?_⟩, ?_, ?_⟩
        · rw [List.length_map]
          have hi' : i < n := by simpa using hi
          omega
        · rw [upd_same, List.map_append]
          rfl
        · rw [List.length_append, w2]
          rfl
        · intro y hy
          rcases List.mem_append.mp hy with hy | hy
          · exact w3 y hy
          · have : y = ⟨#[b]⟩ := by simpa using hy
            exact ⟨b, this, hb⟩
        · exact g3.off (d := D) but_upd nhD ncD
        · intro b' o z' n'
          rw [upd_ne (ne_of_none z' hD)]
          exact kk3 b' o (w5 b' o z' n') n'
      · rintro G ⟨⟨ys, w1, w2, w3⟩, w4, w5⟩
        have w2' : ys.length = n := by simpa using w2
        obtain ⟨j1, j2⟩ := join_signs ys w3
        refine ⟨_, D, ys, rfl, rfl, .inl (.inl (.inl w1)), ?_, ?_⟩
        · have e : (ys.map (·.length)).sum = ys.length := by
            clear w1 w2 w2' j1 j2
            induction ys with
            | nil => rfl
            | cons y r ih =>
              obtain ⟨c, rfl, _⟩ := w3 y List.mem_cons_self
              rw [List.map_cons, List.sum_cons, ih fun w hw => w3 w (List.mem_cons_of_mem _ hw), List.length_cons]
              show 1 + r.length = _
              omega
          rw [e]
          show ys.length + ys.length * 0 ≤ _
          omega
        have eG : G d = some (.dK (kv l)) := w5 _ _ p1 ndh
        have kG : But h H G := p6.trans w5
        generalize PySem.Txt.join "" ys = word at j1 j2 ⊢
        refine ⟨_, rfl, _, rfl, _, _, rfl, rfl, h, ca, c - 1, rfl, by omega, by omega, w4, fun r2 J1 g0 g1 hj1 kj1 => ?_⟩
        have e5 : J1 d = some (.dK (kv l)) := kj1 _ _ eG ndh
        have hlen := p2.ln
        have hjr : j < 3 := by omega
        refine ⟨_, _, rfl, rfl, _, rfl, _, rfl, d, _, rfl, DPut.k (k := Sum.inr word) e5 (by rw [kv_len]; omega), ?_⟩
        refine ⟨⟨_, _, _, rfl⟩, ⟨putT l word (1 + r2), ?_, vt_put p2 j1 (by omega) (by omega) (by omega), fun p hp => ?_, fun _ y => ?_⟩, hj1.off but_upd ndh.symm ndc.symm, fun b o z n' => ?_⟩
        · rw [upd_same, putK_kv]
        · rcases mem_put hp with rfl | hp
          · show word.length = n
            omega
          · exact p3 p hp
        · have hz := num_put_self (l := l) (x := word) (1 + r2)
          rw [y] at hz
          have hz' : (0 : Int) = 1 + r2 := hz
          omega
        · rw [upd_ne (ne_of_none z hd0)]
          exact kj1 b o (kG b o z n') n'
    · rintro σ J0 ⟨⟨y5, y6, y7, rfl⟩, ⟨l, p1, p2, p3, p4⟩, p5, p6⟩
      exact ⟨_, rfl, q J0 d n l p5 p6 hd0 p1 (p2.mono (Nat.le_refl _) (by omega)) (p4 (by omega)) p3 hnm⟩
def spTimes (K : PySem.W.Frag) : Sp := fun vs H Q _ => ∃ (a : Addr) (n c : Int) (m k : Nat) (l : Tb), vs = [.ref a, .int n] ∧ Bg K H a c m k l ∧ isCk c ∧ m ≤ 100000 ∧ k ≤ 900000 ∧
  ∀ H' r t, Same H H' → H r = none → Bg K H' r c m k t → Lk c t (scl n l) → Q (.ref r) H'
abbrev nTimes : List Str := ["bag", "number"]
theorem sc_times : FnScope nTimes nTimes (defScope s_times) := ⟨rfl, rfl, rfl, by decide +kernel, rfl, by decide +kernel, by decide +kernel⟩
theorem ok_times (T : Top K mg) : Ok P w K mg base 8 "times" nTimes (spTimes K) := by
  obtain ⟨fd, F⟩ := fn_times T
  refine ⟨⟨fd, ?_, F.bindsN fun _ _ _ _ _ _ us hl => match us, hl with | [_, _], _ => rfl⟩, g_times T, F.kp⟩
  refine F.ok sc_times (fun vs H Q E h => ?_) (fun cdv A outer s H vs Q E hr h => ?_)
  · obtain ⟨a, n, c, m, k, l, rfl, _⟩ := h
    rfl
  · obtain ⟨a, n, c, m, k, l, rfl, h1, hck, hm, hk, q⟩ := h
    have hr1 : Room 1 _ := hr.mono (by decide)
    have hr2 : Room 2 _ := hr.mono (by decide)
    obtain ⟨hc2, hc7⟩ := ck_range hck
    have hc0 : 0 < c := by omega
    obtain ⟨dx, t, ea, wa⟩ := id h1.1
    have v1 := vt_canon h1.2
    refine ⟨_, PSs.nox (pss_cons (ps_if (pt_not (pt_val (pc (ok_is_integer T) hr1 (pa_cons (pv 1) pa_nil)))) (pss_one ps_never) pss_nil)
      (pss_one (ps_ret (pc (ok_bag_of T) hr (pa_cons (pe_fld (pv 0) rfl) (pa_cons (pc (ok_scaled T) hr2 (pa_cons (pc (ok_table_of T) hr1 (pa_cons (pv 0) pa_nil)) (pa_cons (pv 1) (pa_cons (pe_fld (pv 0) rfl) pa_nil)))) pa_nil)))))), ?_⟩
    refine ⟨_, rfl, n, rfl, true, rfl, iteF ?_⟩
    refine ⟨_, rfl, a, _, dx, _, _, rfl, ea, cls_Bag T, na_Bag_clock T, flds_clock _ _, ?_⟩
    refine ⟨_, rfl, a, c, canon l, rfl, h1.1, v1.nd, fun D1 hD1 => ?_⟩
    have s1 := same_upd (o := .dK (kv (canon l))) hD1
    refine ⟨_, rfl, _, rfl, a, _, dx, _, _, rfl, s1 _ _ ea, cls_Bag T, na_Bag_clock T, flds_clock _ _, ?_⟩
    refine ⟨D1, n, c, canon l, rfl, hc0, hc7, upd_same, v1.nd, v1.nu, Nat.le_trans v1.ln (by omega), fun H3 D3 s3 n3 e3 => ?_⟩
    obtain ⟨w1, w2⟩ := vt_scl (f := n) hc0 v1
    obtain ⟨w3, w4⟩ := vt_again hc0 w1
    refine ⟨c, D3, _, rfl, hck, e3, w1.nd, fun p hp => Nat.le_trans (w1.wd p hp).2 (by omega), Nat.le_trans w1.ln (by omega), fun H4 r s4 n4 hb4 => ?_⟩
    exact q H4 r _ ((s1.trans s3).trans s4) ((s1.trans s3).free n4) ⟨hb4, w3⟩ (w4.trans (w2.trans (Lk.scl n (lk_canon h1.2.nd))))
theorem sc_check_something : FnScope ["bag"] ["bag"] (defScope s_check_something) := ⟨rfl, rfl, rfl, by decide +kernel, rfl, by decide +kernel, by decide +kernel⟩
theorem ok_check_something (T : Top K mg) : OkX P w K mg base 1 "check_something" ["bag"] (spSomething K) := by
  obtain ⟨fd, F⟩ := fn_check_something T
  obtain ⟨x1, x2, x3, x4⟩ := e_IsNothing T
  refine ⟨⟨fd, ?_, F.bindsN fun _ _ _ _ _ _ us hl => match us, hl with | [_], _ => rfl⟩, g_check_something T, F.kp⟩
  refine F.ok sc_check_something (fun vs H Q E h => ?_) (fun cdv A outer s H vs Q E hr h => ?_)
  · obtain ⟨a, c, L, rfl, _⟩ := h
    rfl
  · obtain ⟨a, c, L, rfl, ⟨dx, t, ea, wt⟩, q1, q2⟩ := h
    obtain ⟨ps, o, e1, e2, e3⟩ := WordsAt.get wt
    refine ⟨_, pss_one (ps_if (pt_not (pt_truth (pe_fld (pv 0) rfl) (fun _ => rfl))) (pss_one (ps_raise rfl (takes_of rfl rfl rfl rfl) (pmk_own0 PySem.F.excBase_ValueError x1 (g_IsNothing T) x2 (raises_own x3 x4) rfl))) pss_nil), ?_⟩
    refine ⟨_, rfl, a, _, dx, _, _, rfl, ea, cls_Bag T, na_Bag_words T, flds_words _ _, ?_⟩
    refine ⟨_, .inr (.inl ⟨_, .inl (.inr ⟨o, e1⟩), rfl⟩), ?_⟩
    cases L with
    | nil =>
      have : ps = [] := List.eq_nil_of_length_eq_zero e2
      subst this
      exact ite2 (fun _ => q2 rfl) (fun z => absurd rfl z)
    | cons p r =>
      cases ps with
      | nil => simp at e2
      | cons p1 ps => exact ite2 (fun z => absurd z (by simp)) (fun _ => q1 (by simp))
def spPlain (K : PySem.W.Frag) : Sp := fun vs H Q E => ∃ (a : Addr) (c : Int) (m k : Nat) (l : Tb), vs = [.ref a] ∧ Bg K H a c m k l ∧ isCk c ∧ m ≤ 100000 ∧ k ≤ 900000 ∧
  (∀ p r, canon l = p :: r → ∀ n : Int, 1 ≤ n → n < c → (p.2 * n) % c = 1 → ∀ H' b t, Same H H' → H b = none → Bg K H' b c m k t → Lk c t (scl n l) → Q (.ref b) H') ∧ (canon l = [] → E (.ref (He.ga K "IsNothing")) none H)
theorem sc_plain : FnScope ["bag"] ["bag"] (defScope s_plain) := ⟨rfl, rfl, rfl, by decide +kernel, rfl, by decide +kernel, by decide +kernel⟩
theorem ok_plain (T : Top K mg) : OkX P w K mg base 9 "plain" ["bag"] (spPlain K) := by
  obtain ⟨fd, F⟩ := fn_plain T
  refine ⟨⟨fd, ?_, F.bindsN fun _ _ _ _ _ _ us hl => match us, hl with | [_], _ => rfl⟩, g_plain T, F.kp⟩
  refine F.ok sc_plain (fun vs H Q E h => ?_) (fun cdv A outer s H vs Q E hr h => ?_)
  · obtain ⟨a, c, m, k, l, rfl, _⟩ := h
    rfl
  · obtain ⟨a, c, m, k, l, rfl, hb, hck, hm, hk, q1, q2⟩ := h
    have hr1 : Room 1 _ := hr.mono (by decide)
    obtain ⟨hc2, hc7⟩ := ck_range hck
    obtain ⟨dx, t, ea, wt⟩ := id hb.1
    obtain ⟨ps, o, e1, e2, e3⟩ := WordsAt.get wt
    refine ⟨_, pss_cons (ps_expr (pcX (takes_of rfl rfl rfl rfl) (ok_check_something T) hr1 (pa_cons (pv 0) pa_nil)))
      (pss_one (ps_ret (pc (ok_times T) hr (pa_cons (pv 0) (pa_cons (pc (ok_inverse T) hr1 (pa_cons (pe_ix ix_tup (pe_ix ix_tup (pe_fld (pv 0) rfl) pe_int (fun _ _ => rfl)) pe_int (fun _ _ => rfl)) (pa_cons (pe_fld (pv 0) rfl) pa_nil))) pa_nil))))), ?_⟩
    refine ⟨_, rfl, a, c, canon l, rfl, hb.1, fun hne => ?_, fun he => q2 he⟩
    have vc := vt_canon hb.2
    cases hL : canon l with
    | nil => exact absurd hL hne
    | cons p r =>
      rw [hL] at e2 e3
      obtain ⟨p0, h1, h2⟩ := e3 0 p rfl
      cases ps with
      | nil => simp at h1
      | cons p1 ps =>
        have : p1 = p0 := Option.some.inj h1
        subst this
        have hn := vc.nu p (by rw [hL]; exact List.mem_cons_self)
        refine ⟨_, rfl, _, rfl, a, _, dx, _, _, rfl, ea, cls_Bag T, na_Bag_words T, flds_words _ _, ?_⟩
        refine ⟨t, _, 0, _, rfl, rfl, .inl (.inr ⟨o, e1⟩), atI_nat (j := 0) (xs := (p1 :: ps).map V.ref) rfl, p1, _, 1, _, rfl, rfl, .inl (.inl h2), rfl, ?_⟩
        refine ⟨_, rfl, a, _, dx, _, _, rfl, ea, cls_Bag T, na_Bag_clock T, flds_clock _ _, ?_⟩
        refine ⟨p.2, c, rfl, hck, fun n n0 n1 n2 => ?_⟩
        have hz : p.2 % c ≠ 0 := by
          rw [Int.emod_eq_of_lt (by omega) hn.2]
          omega
        obtain ⟨n3, n4⟩ := n2 hz
        exact ⟨a, n, c, m, k, l, rfl, hb, hck, hm, hk, fun H' b u s nb gb kb => q1 p r hL n n4 n1 n3 H' b u s nb gb kb⟩
end
end Fp

set_option Elab.async false
set_option linter.all false
set_option maxRecDepth 100000
set_option maxHeartbeats 4000000
namespace Fp
open PySem PySem.Spec PyProof.Rows L2
theorem hd_uniq {l : Tb} {x : Str} (hx : x ∈ l.map (·.1)) (h : ∀ y ∈ l.map (·.1), leR x y = true) : hdW l = x := by
  have hne : l ≠ [] := fun z => by rw [z] at hx; cases hx
  obtain ⟨h1, h2⟩ := hd_first hne
  exact leR_anti (h2 _ hx) (h _ h1)
theorem hd_keys {l m : Tb} (hne : l ≠ []) (h : ∀ x, x ∈ l.map (·.1) ↔ x ∈ m.map (·.1)) : hdW m = hdW l := by
  obtain ⟨h1, h2⟩ := hd_first hne
  exact hd_uniq ((h _).mp h1) fun y hy => h2 y ((h y).mpr hy)
theorem hd_canon {l : Tb} (hne : l ≠ []) : hdW (canon l) = hdW l := hd_keys hne fun x => by rw [canon_keys]; exact ordW_mem.symm
theorem tot_ne {es : Tb} {x : Str} (h : tot es x ≠ 0) : x ∈ es.map (·.1) := Classical.byContradiction fun z => h (tot_not z)
theorem lev_not {n : Nat} {l : Tb} (hl : Lev n l) {x : Str} (h : x.length ≠ n) : x ∉ l.map (·.1) := fun z => by
  obtain ⟨p, hp, rfl⟩ := List.mem_map.mp z
  exact h (hl p hp)
theorem len_zero {x : Str} (h : x.length = 0) : x = "" := PySem.W.str_of_cps (by
  show x.cps.toList = ([] : List Nat)
  refine List.eq_nil_of_length_eq_zero ?_
  rw [Array.length_toList]
  exact h)
theorem lev_prs {s n : Nat} {a b : Tb} (ha : Lev s a) (hb : Lev n b) : Lev (s + n) (prs a b) := fun p hp => by
  obtain ⟨x, hx, h⟩ := List.mem_flatMap.mp hp
  obtain ⟨y, hy, rfl⟩ := List.mem_map.mp h
  show (x.1 ++ y.1).length = _
  rw [Str.length_append, ha x hx, hb y hy]
theorem tot_prs {s : Nat} {B : Tb} (y : Str) : ∀ {A : Tb}, Lev s A → tot (prs A B) y = if s ≤ y.length then tot A (fw s y) * tot B (bw s y) else 0
  | [], _ => by
    rw [show prs [] B = [] from rfl, tot_nil, tot_nil, Int.zero_mul]
    split <;> rfl
  | p :: r, h => by
    have hp := h p List.mem_cons_self
    rw [tot_prs_cons, tot_prs y fun q hq => h q (List.mem_cons_of_mem _ hq), tot_cons]
    rcases tot_fwd p B y with ⟨v, e, t⟩ | ⟨e, t⟩
    · have hy : s ≤ y.length := by
        rw [← e, Str.length_append]
        omega
      obtain ⟨e1, e2⟩ := (app_iff hy hp).mp e.symm
      rw [if_pos hy, if_pos hy, t, e2, if_pos e1.symm, Int.add_mul]
    · rw [t]
      by_cases hy : s ≤ y.length
      · rw [if_pos hy, if_pos hy, if_neg fun z => e (bw s y) (by rw [z, fw_bw hy]), Int.zero_add, Int.zero_add]
      · rw [if_neg hy, if_neg hy]
        rfl
section
variable {c : Int} {m k s n : Nat} {l : Tb}
theorem lk_num (hc : 0 < c) {es : Tb} (v : VT c m k l) (h : Lk c l es) (x : Str) : num l x = tot es x % c := by
  rw [← h x, tot_num v.nd, num_mod hc v]
theorem vt_key (v : VT c m k l) (x : Str) : x ∈ l.map (·.1) ↔ num l x ≠ 0 := rg_key v.nd (fun p hp => (v.nu p hp).1) x
theorem lev_lk (hc : 0 < c) {es : Tb} (v : VT c m k l) (h : Lk c l es) (he : Lev n es) : Lev n l := fun p hp => by
  have h1 := (vt_key v p.1).mp (List.mem_map.mpr ⟨p, hp, rfl⟩)
  rw [lk_num hc v h] at h1
  obtain ⟨q, hq, e⟩ := List.mem_map.mp (tot_ne (es := es) (x := p.1) fun z => h1 (by rw [z]; exact Int.zero_emod c))
  rw [← e]
  exact he q hq
theorem lk_of (hc : 0 < c) {es : Tb} (v : VT c m k l) (h : ∀ x, num l x = tot es x % c) : Lk c l es := fun x => by
  rw [tot_num v.nd, h x, Int.emod_emod_of_dvd _ (Int.dvd_refl c)]
theorem ck_one {x y : Int} {t : Int} (hc : isCk c) (h1 : (t * x) % c = 1) (h2 : (t * y) % c = 1) (hx : 1 ≤ x) (hx' : x < c) (hy : 1 ≤ y) (hy' : y < c) : x = y := by
  obtain ⟨hc2, hc7⟩ := ck_range hc
  have ht : t % c ≠ 0 := fun z => by
    rw [Int.mul_emod, z, Int.zero_mul, Int.zero_emod] at h1
    cases h1
  have h3 : c ∣ t * (x - y) := by
    rw [Int.mul_sub]
    exact Int.dvd_of_emod_eq_zero (Int.emod_eq_emod_iff_emod_sub_eq_zero.mp (by rw [h1, h2]))
  obtain ⟨q, e⟩ := ck_cancel hc ht h3
  rcases Int.lt_trichotomy q 0 with g | g | g
  · have : c * q ≤ c * (-1) := Int.mul_le_mul_of_nonneg_left (by omega) (by omega)
    omega
  · subst q
    omega
  · have : c * 1 ≤ c * q := Int.mul_le_mul_of_nonneg_left (by omega) (by omega)
    omega
/-! ### where nothing crosses -/
theorem cross_iff (hc : isCk c) (v : VT c m k l) (hl : Lev n l) (hne : l ≠ []) (hs : s ≤ n) : crossOf c s (canon l) = none ↔ ¬ CrsB c s l := by
  have vc := vt_canon v
  have hlc := lev_canon hl
  have hnc := canon_nil hne
  constructor
  · rintro h ⟨a, b, d, e, ha, hb, hd, he, hq⟩
    have h1 := cross_nc hc vc hlc hnc hs h
    have len : ∀ {z}, z ∈ l.map (fun p => fw s p.1) → z.length = s := fun hz => by
      obtain ⟨p, hp, rfl⟩ := List.mem_map.mp hz
      exact fw_len (by rw [hl p hp]; exact hs)
    have h2 := h1 a b d e (len ha) (len hb)
    rw [canon_num v.nd, canon_num v.nd, canon_num v.nd, canon_num v.nd] at h2
    exact hq (Int.emod_eq_zero_of_dvd h2)
  · intro h
    cases hz : crossOf c s (canon l) with
    | none => rfl
    | some z =>
      exfalso
      obtain ⟨a, b, d, e⟩ := z
      obtain ⟨la, lb, _, _, _, _, _, _, hq⟩ := cross_some hc vc hlc hnc hs hz
      rw [canon_num v.nd, canon_num v.nd, canon_num v.nd, canon_num v.nd] at hq
      have mem : ∀ {x y : Str}, x.length = s → num l (x ++ y) ≠ 0 → x ∈ l.map (fun p => fw s p.1) ∧ y ∈ l.map (fun p => bw s p.1) := fun hx h => by
        obtain ⟨p, hp, ep⟩ := List.mem_map.mp ((vt_key v _).mpr h)
        obtain ⟨e1, e2⟩ := (app_iff (by rw [hl p hp]; exact hs) hx).mp ep
        exact ⟨List.mem_map.mpr ⟨p, hp, e1⟩, List.mem_map.mpr ⟨p, hp, e2⟩⟩
      refine h ⟨a, b, d, e, ?_⟩
      have hq' : crq c l a b d e := fun z => hq (Int.dvd_of_emod_eq_zero z)
      by_cases h1 : num l (a ++ d) = 0 ∨ num l (b ++ e) = 0
      · by_cases h2 : num l (a ++ e) = 0 ∨ num l (b ++ d) = 0
        · exfalso
          refine hq ?_
          have g1 : num l (a ++ d) * num l (b ++ e) = 0 := by rcases h1 with z | z <;> rw [z] <;> simp
          have g2 : num l (a ++ e) * num l (b ++ d) = 0 := by rcases h2 with z | z <;> rw [z] <;> simp
          rw [g1, g2]
          exact ⟨0, by simp⟩
        · have h2 := not_or.mp h2
          exact ⟨(mem la h2.1).1, (mem lb h2.2).1, (mem lb h2.2).2, (mem la h2.1).2, hq'⟩
      · have h1 := not_or.mp h1
        exact ⟨(mem la h1.1).1, (mem lb h1.2).1, (mem la h1.1).2, (mem lb h1.2).2, hq'⟩
theorem crs_zero : ¬ CrsB c 0 l := by
  rintro ⟨a, b, d, e, ha, hb, _, _, hq⟩
  have z : ∀ {x}, x ∈ l.map (fun p => fw 0 p.1) → x = "" := fun hx => by
    obtain ⟨p, hp, rfl⟩ := List.mem_map.mp hx
    have := fw_len (s := 0) (z := p.1) (Nat.zero_le _)
    exact len_zero this
  rw [z ha, z hb] at hq
  exact hq (by rw [Int.mul_comm, Int.sub_self]; exact Int.zero_emod c)
theorem crs_full (hl : Lev n l) : ¬ CrsB c n l := by
  rintro ⟨a, b, d, e, _, _, hd, he, hq⟩
  have z : ∀ {x}, x ∈ l.map (fun p => bw n p.1) → x = "" := fun hx => by
    obtain ⟨p, hp, rfl⟩ := List.mem_map.mp hx
    have := bw_len (s := n) (z := p.1) (by rw [hl p hp]; exact Nat.le_refl _)
    rw [hl p hp, Nat.sub_self] at this
    exact len_zero this
  rw [z hd, z he] at hq
  exact hq (by rw [Int.sub_self]; exact Int.zero_emod c)
end
end Fp

set_option Elab.async false
set_option linter.all false
set_option maxRecDepth 100000
set_option maxHeartbeats 4000000
namespace Fp
open PySem PySem.Spec PyProof.Rows L2
/-- what a told cut is -/
structure CutR (c : Int) (s n k : Nat) (l : Tb) (i : Int) (u u' : Tb) : Prop where
  vu : VT c s k u
  vv : VT c (n - s) k u'
  lu : Lk c u (scl i (frT s (hdW l) (canon l)))
  lv : Lk c u' (bkT s (hdW l) (canon l))
  inv : (num l (hdW l) * i) % c = 1
  i1 : 1 ≤ i
  ic : i < c
theorem plain_uniq {c t j : Int} {mA kA mu ku mv kv' : Nat} {A u v : Tb} (hc : isCk c) (vA : VT c mA kA A) (vu : VT c mu ku u) (vv : VT c mv kv' v) (hne : A ≠ []) (lu : Lk c u (scl t A)) (lv : Lk c v (scl j A)) (h1 : num u (hdW u) = 1) (h2 : (j * num A (hdW A)) % c = 1) : canon u = canon v := by
  obtain ⟨hc2, hc7⟩ := ck_range hc
  have c0 : 0 < c := by omega
  have nu : ∀ x, num u x = (t * num A x) % c := fun x => by rw [lk_num c0 vu lu, tot_scl, tot_num vA.nd]
  have ht : t % c ≠ 0 := fun z => by
    have := nu (hdW u)
    rw [h1, Int.mul_emod, z, Int.zero_mul, Int.zero_emod] at this
    cases this
  have hk : ∀ x, x ∈ A.map (·.1) ↔ x ∈ u.map (·.1) := fun x => by
    rw [vt_key vA, vt_key vu, nu]
    refine not_congr ⟨fun z => by rw [z, Int.mul_zero, Int.zero_emod], fun z => ?_⟩
    have hd := ck_cancel hc ht (Int.dvd_of_emod_eq_zero z)
    rw [← num_mod c0 vA x]
    exact Int.emod_eq_zero_of_dvd hd
  have eh : hdW u = hdW A := hd_keys hne hk
  have h3 := nu (hdW u)
  rw [h1, eh] at h3
  have hp := num_pos vA (hd_first hne).1
  have hd : c ∣ num A (hdW A) * (t - j) := by
    have := Int.dvd_of_emod_eq_zero (Int.emod_eq_emod_iff_emod_sub_eq_zero.mp (h3.symm.trans h2.symm))
    rwa [show num A (hdW A) * (t - j) = t * num A (hdW A) - j * num A (hdW A) by rw [Int.mul_sub, Int.mul_comm t, Int.mul_comm j]]
  obtain ⟨q, e⟩ := ck_cancel hc (not_dvd hp.1 hp.2) hd
  refine lk_same c0 vu vv (lu.trans (Lk.trans (fun x => ?_) lv.symm))
  rw [tot_scl, tot_scl]
  refine Int.emod_eq_emod_iff_emod_sub_eq_zero.mpr (Int.emod_eq_zero_of_dvd ⟨q * tot A x, ?_⟩)
  rw [← Int.sub_mul, e, Int.mul_assoc]
section
variable {c i : Int} {m k k' s n : Nat} {l u u' : Tb}
theorem CutR.num_u (r : CutR c s n k l i u u') (hc : isCk c) (v : VT c m k' l) (hl : Lev n l) (hs : s ≤ n) {a : Str} (ha : a.length = s) : num u a = (i * num l (a ++ bw s (hdW l))) % c := by
  obtain ⟨hc2, hc7⟩ := ck_range hc
  rw [lk_num (by omega) r.vu r.lu, tot_scl, tot_num (nd_fr hs (canon_nd v.nd) (lev_canon hl)), num_fr hs (lev_canon hl) ha, canon_num v.nd]
theorem CutR.num_v (r : CutR c s n k l i u u') (hc : isCk c) (v : VT c m k' l) (hl : Lev n l) (hne : l ≠ []) (hs : s ≤ n) (b : Str) : num u' b = num l (fw s (hdW l) ++ b) := by
  obtain ⟨hc2, hc7⟩ := ck_range hc
  rw [lk_num (by omega) r.vv r.lv, tot_num (nd_bk hs (canon_nd v.nd) (lev_canon hl)), num_bk hs (hd_len hne hl) (lev_canon hl), canon_num v.nd, num_mod (by omega) v]
theorem CutR.lev_u (r : CutR c s n k l i u u') (hc : isCk c) (hl : Lev n l) (hs : s ≤ n) : Lev s u := by
  obtain ⟨hc2, hc7⟩ := ck_range hc
  refine lev_lk (by omega) r.vu r.lu fun p hp => ?_
  obtain ⟨q, hq, rfl⟩ := List.mem_map.mp hp
  exact (fr_mem hs (lev_canon hl) hq).choose_spec.2.2.2
theorem CutR.lev_v (r : CutR c s n k l i u u') (hc : isCk c) (hl : Lev n l) (hs : s ≤ n) : Lev (n - s) u' := by
  obtain ⟨hc2, hc7⟩ := ck_range hc
  refine lev_lk (by omega) r.vv r.lv fun p hp => ?_
  exact (bk_mem hs (lev_canon hl) hp).choose_spec.2.2.2
theorem CutR.one (r : CutR c s n k l i u u') (hc : isCk c) (v : VT c m k' l) (hl : Lev n l) (hne : l ≠ []) (hs : s ≤ n) : num u (fw s (hdW l)) = 1 := by
  have hh := hd_len hne hl
  rw [r.num_u hc v hl hs (fw_len (by omega)), fw_bw (by omega), Int.mul_comm]
  exact r.inv
theorem CutR.hd (r : CutR c s n k l i u u') (hc : isCk c) (v : VT c m k' l) (hl : Lev n l) (hne : l ≠ []) (hs : s ≤ n) : hdW u = fw s (hdW l) := by
  have hh := hd_len hne hl
  have e1 := r.one hc v hl hne hs
  refine hd_uniq ((vt_key r.vu _).mpr (by rw [e1]; decide)) fun y hy => ?_
  have hy0 : y.length = s := by
    obtain ⟨p, hp, rfl⟩ := List.mem_map.mp hy
    exact r.lev_u hc hl hs p hp
  have h1 := (vt_key r.vu _).mp hy
  rw [r.num_u hc v hl hs hy0] at h1
  have h2 : y ++ bw s (hdW l) ∈ l.map (·.1) := (vt_key v _).mpr fun z => h1 (by rw [z, Int.mul_zero, Int.zero_emod])
  have h3 := leR_iff.mp ((hd_first hne).2 _ h2)
  rw [leR_iff]
  refine .inr ⟨by rw [fw_len (by omega), hy0], fun z => ?_⟩
  rcases h3 with h3 | ⟨_, h3⟩
  · rw [Str.length_append, hy0, bw_len (by omega)] at h3
    omega
  · refine h3 ?_
    have e : (hdW l).cps.toList = (fw s (hdW l)).cps.toList ++ (bw s (hdW l)).cps.toList := by
      conv => lhs; rw [← fw_bw (z := hdW l) (s := s) (by omega)]
      exact Array.toList_append
    have e2 : (y ++ bw s (hdW l)).cps.toList = y.cps.toList ++ (bw s (hdW l)).cps.toList := Array.toList_append
    rw [e, e2]
    exact (lt_suffix (by
      have g1 : y.cps.toList.length = y.length := Array.length_toList
      have g2 : (fw s (hdW l)).cps.toList.length = (fw s (hdW l)).length := Array.length_toList
      rw [g1, g2, hy0, fw_len (by omega)])).mpr z
theorem CutR.ne (r : CutR c s n k l i u u') (hc : isCk c) (v : VT c m k' l) (hl : Lev n l) (hne : l ≠ []) (hs : s ≤ n) : u ≠ [] ∧ u' ≠ [] := by
  have hh := hd_len hne hl
  constructor
  · intro z
    have := r.one hc v hl hne hs
    rw [z] at this
    cases this
  · intro z
    have := r.num_v hc v hl hne hs (bw s (hdW l))
    rw [fw_bw (by omega), z] at this
    have h2 := num_pos v (hd_first hne).1
    have h3 : num [] (bw s (hdW l)) = 0 := rfl
    omega
/-- both parts behind one another are the bag -/
theorem CutR.prod (r : CutR c s n k l i u u') (hc : isCk c) (v : VT c m k' l) (hl : Lev n l) (hne : l ≠ []) (hs : s ≤ n) (hx : ¬ CrsB c s l) : Lk c (prs u u') l := fun y => by
  obtain ⟨hc2, hc7⟩ := ck_range hc
  have hh := hd_len hne hl
  rw [tot_prs y (r.lev_u hc hl hs), tot_num r.vu.nd, tot_num r.vv.nd, tot_num v.nd]
  by_cases hy : s ≤ y.length
  · rw [if_pos hy, r.num_u hc v hl hs (fw_len hy), r.num_v hc v hl hne hs]
    have h1 := nc_r1 (s := s) (h := hdW l) (l := l) (by omega) (c := c) (fun a b d e ha hb => by
      have := cross_nc hc (vt_canon v) (lev_canon hl) (canon_nil hne) hs ((cross_iff hc v hl hne hs).mpr hx) a b d e ha hb
      rwa [canon_num v.nd, canon_num v.nd, canon_num v.nd, canon_num v.nd] at this) (fw s y) (bw s y) (fw_len hy)
    rw [fw_bw hy] at h1
    obtain ⟨q, hq⟩ := h1
    have h2 := r.inv
    have h3 : num l (hdW l) * i = 1 + c * (num l (hdW l) * i / c) := by
      have := Int.emod_add_mul_ediv (num l (hdW l) * i) c
      omega
    generalize num l (hdW l) * i / c = z at h3
    generalize num l (hdW l) = N at *
    generalize num l (fw s y ++ bw s (hdW l)) = X at *
    generalize num l (fw s (hdW l) ++ bw s y) = Y at *
    generalize num l y = W at *
    refine Int.emod_eq_emod_iff_emod_sub_eq_zero.mpr (Int.emod_eq_zero_of_dvd ?_)
    have h4 := Int.emod_add_mul_ediv (i * X) c
    generalize i * X / c = z2 at h4
    generalize (i * X) % c = G at h4 ⊢
    refine ⟨z * W - q * i - z2 * Y, ?_⟩
    grind
  · rw [if_neg hy, num_not (lev_not hl (by omega))]
theorem CutR.uniq {m2 k2 : Nat} {i2 : Int} {w w' : Tb} (r : CutR c s n k l i u u') (r2 : CutR c s n k2 l i2 w w') (hc : isCk c) (v : VT c m k' l) (hne : l ≠ []) : canon u = canon w ∧ canon u' = canon w' := by
  obtain ⟨hc2, hc7⟩ := ck_range hc
  have hp := num_pos v (hd_first hne).1
  have e : i = i2 := ck_one hc r.inv r2.inv r.i1 r.ic r2.i1 r2.ic
  subst e
  exact ⟨lk_same (by omega) r.vu r2.vu (r.lu.trans r2.lu.symm), lk_same (by omega) r.vv r2.vv (r.lv.trans r2.lv.symm)⟩
theorem CutR.zero {k1 : Nat} {o : Tb} (r : CutR c 0 n k l i u u') (hc : isCk c) (v : VT c m k' l) (hl : Lev n l) (hne : l ≠ []) (vo : VT c 0 k1 o) (lo : Lk c o [("", 1)]) : canon u = canon o ∧ canon u' = canon l := by
  obtain ⟨hc2, hc7⟩ := ck_range hc
  have e0 : fw 0 (hdW l) = "" := len_zero (fw_len (Nat.zero_le _))
  have h1 := r.one hc v hl hne (Nat.zero_le _)
  refine ⟨vt_ext r.vu vo fun x => ?_, vt_ext r.vv v fun x => ?_⟩
  · rw [lk_num (by omega) vo lo, tot_cons, tot_nil]
    by_cases hx : ("" : Str) = x
    · rw [← hx, ← e0, h1, e0, if_pos rfl]
      exact (Int.emod_eq_of_lt (by decide) (by omega)).symm
    · rw [num_not (lev_not (r.lev_u hc hl (Nat.zero_le _)) fun z => hx (len_zero z).symm), if_neg hx]
      exact (Int.zero_emod c).symm
  · rw [r.num_v hc v hl hne (Nat.zero_le _), e0, str_nil_l]
theorem CutR.full {k1 m1 : Nat} {o : Tb} {j : Int} (r : CutR c n n k l i u u') (hc : isCk c) (v : VT c m k' l) (hl : Lev n l) (hne : l ≠ []) (vo : VT c m1 k1 o) (lo : Lk c o (scl j l)) (hj : (j * num l (hdW l)) % c = 1) : canon u = canon o := by
  obtain ⟨hc2, hc7⟩ := ck_range hc
  have hh := hd_len hne hl
  have e0 : bw n (hdW l) = "" := len_zero (by rw [bw_len (by omega)]; omega)
  have h1 := r.one hc v hl hne (Nat.le_refl _)
  have h2 := r.hd hc v hl hne (Nat.le_refl _)
  refine plain_uniq (t := i) hc v r.vu vo hne (lk_of (by omega) r.vu fun x => ?_) lo (by rw [h2]; exact h1) hj
  rw [tot_scl, tot_num v.nd]
  by_cases hx : x.length = n
  · rw [r.num_u hc v hl (Nat.le_refl _) hx, e0, str_nil_r]
  · rw [num_not (lev_not (r.lev_u hc hl (Nat.le_refl _)) hx), num_not (lev_not hl hx), Int.mul_zero, Int.zero_emod]
end
/-! ### a product of level tables -/
section
variable {c : Int} {m m1 m2 k k1 k2 s n : Nat} {W A B : Tb}
theorem num_prd (hc : 0 < c) (v : VT c m k W) (vA : VT c m1 k1 A) (vB : VT c m2 k2 B) (h : Lk c W (prs A B)) (hA : Lev s A) {a : Str} (ha : a.length = s) (b : Str) : num W (a ++ b) = (num A a * num B b) % c := by
  rw [lk_num hc v h, tot_prs _ hA, if_pos (by rw [Str.length_append]; omega), tot_num vA.nd, tot_num vB.nd]
  have := fw_app a b
  have g := bw_app a b
  rw [ha] at this g
  rw [this, g]
theorem prd_ne (hc : isCk c) (v : VT c m k W) (vA : VT c m1 k1 A) (vB : VT c m2 k2 B) (h : Lk c W (prs A B)) (hA : Lev s A) (nA : A ≠ []) (nB : B ≠ []) : W ≠ [] := fun z => by
  obtain ⟨hc2, hc7⟩ := ck_range hc
  have h1 := num_prd (by omega) v vA vB h hA (hd_len nA hA) (hdW B)
  have hp := num_pos vA (hd_first nA).1
  have hq := num_pos vB (hd_first nB).1
  rw [z] at h1
  have h2 : (num A (hdW A) * num B (hdW B)) % c = 0 := h1.symm
  exact not_dvd hq.1 hq.2 (Int.emod_eq_zero_of_dvd (ck_cancel hc (not_dvd hp.1 hp.2) (Int.dvd_of_emod_eq_zero h2)))
theorem prd_nc (hc : isCk c) (v : VT c m k W) (vA : VT c m1 k1 A) (vB : VT c m2 k2 B) (h : Lk c W (prs A B)) (hA : Lev s A) (hW : Lev n W) (hs : s ≤ n) : ¬ CrsB c s W := by
  obtain ⟨hc2, hc7⟩ := ck_range hc
  rintro ⟨a, b, d, e, ha, hb, _, _, hq⟩
  have len : ∀ {z}, z ∈ W.map (fun p => fw s p.1) → z.length = s := fun hz => by
    obtain ⟨p, hp, rfl⟩ := List.mem_map.mp hz
    exact fw_len (by rw [hW p hp]; exact hs)
  have g : ∀ {x y : Str}, x.length = s → num W (x ++ y) = (num A x * num B y) % c := fun hx => num_prd (by omega) v vA vB h hA hx _
  refine hq (Int.emod_eq_emod_iff_emod_sub_eq_zero.mp ?_)
  rw [g (len ha), g (len hb), g (len ha), g (len hb), ← Int.mul_emod, ← Int.mul_emod]
  congr 1
  grind
theorem CutR.part {kk kP mP : Nat} {i j : Int} {u u' P : Tb} (r : CutR c s n kk W i u u') (hc : isCk c) (v : VT c m k W) (vA : VT c m1 k1 A) (vB : VT c m2 k2 B) (h : Lk c W (prs A B)) (hA : Lev s A) (nA : A ≠ []) (nB : B ≠ []) (hW : Lev n W) (hs : s ≤ n) (vP : VT c mP kP P) (lP : Lk c P (scl j A)) (hj : (j * num A (hdW A)) % c = 1) : canon u = canon P := by
  obtain ⟨hc2, hc7⟩ := ck_range hc
  have hne := prd_ne hc v vA vB h hA nA nB
  refine plain_uniq (t := i * num B (bw s (hdW W))) hc vA r.vu vP nA (lk_of (by omega) r.vu fun x => ?_) lP (by rw [r.hd hc v hW hne hs]; exact r.one hc v hW hne hs) hj
  rw [tot_scl, tot_num vA.nd]
  by_cases hx : x.length = s
  · rw [r.num_u hc v hW hs hx, num_prd (by omega) v vA vB h hA hx, Int.mul_emod, Int.emod_emod_of_dvd _ (Int.dvd_refl c), ← Int.mul_emod]
    congr 1
    grind
  · rw [num_not (lev_not (r.lev_u hc hW hs) hx), num_not (lev_not hA hx), Int.mul_zero, Int.zero_emod]
end
end Fp

set_option Elab.async false
set_option linter.all false
set_option maxRecDepth 100000
set_option maxHeartbeats 4000000
namespace Fp
open PySem PySem.Spec PyProof.Rows L2
/-- l' is t times l -/
def Pr (c t : Int) (l l' : Tb) : Prop := ∀ x, num l' x % c = (t * num l x) % c
theorem emod_dvd {c x y : Int} (h : x % c = y % c) : ∃ q, x = y + c * q := by
  obtain ⟨q, e⟩ := Int.dvd_of_emod_eq_zero (Int.emod_eq_emod_iff_emod_sub_eq_zero.mp h)
  exact ⟨q, by omega⟩
section
variable {c t : Int} {m k m' k' s n : Nat} {l l' : Tb}
theorem cross_nc_iff (hc : isCk c) (v : VT c m k l) (hl : Lev n l) (hne : l ≠ []) (hs : s ≤ n) : crossOf c s l = none ↔ NC c s l := by
  refine ⟨cross_nc hc v hl hne hs, fun h => ?_⟩
  cases e : crossOf c s l with
  | none => rfl
  | some z =>
    obtain ⟨a, b, d, e'⟩ := z
    obtain ⟨la, lb, _, _, _, _, _, _, hq⟩ := cross_some hc v hl hne hs e
    exact absurd (h a b d e' la lb) hq
theorem nc_canon (v : VT c m k l) : NC c s (canon l) ↔ NC c s l := by
  unfold NC
  simp only [canon_num v.nd]
theorem crs_nc (hc : isCk c) (v : VT c m k l) (hl : Lev n l) (hne : l ≠ []) (hs : s ≤ n) : ¬ CrsB c s l ↔ NC c s l :=
  (cross_iff hc v hl hne hs).symm.trans ((cross_nc_iff hc (vt_canon v) (lev_canon hl) (canon_nil hne) hs).trans (nc_canon v))
theorem nc_scale (hc : isCk c) (ht : t % c ≠ 0) (h : Pr c t l l') : NC c s l ↔ NC c s l' := by
  have key : ∀ a b d e : Str, ∃ q, num l' (a ++ d) * num l' (b ++ e) - num l' (a ++ e) * num l' (b ++ d) = t * (t * (num l (a ++ d) * num l (b ++ e) - num l (a ++ e) * num l (b ++ d))) + c * q := fun a b d e => by
    obtain ⟨q1, e1⟩ := emod_dvd (h (a ++ d))
    obtain ⟨q2, e2⟩ := emod_dvd (h (b ++ e))
    obtain ⟨q3, e3⟩ := emod_dvd (h (a ++ e))
    obtain ⟨q4, e4⟩ := emod_dvd (h (b ++ d))
    rw [e1, e2, e3, e4]
    generalize num l (a ++ d) = x1
    generalize num l (b ++ e) = x2
    generalize num l (a ++ e) = x3
    generalize num l (b ++ d) = x4
    refine ⟨t * x1 * q2 + q1 * (t * x2) + c * q1 * q2 - (t * x3 * q4 + q3 * (t * x4) + c * q3 * q4), ?_⟩
    grind
  constructor
  · intro z a b d e ha hb
    obtain ⟨q, hq⟩ := key a b d e
    rw [hq]
    exact Int.dvd_add (Int.dvd_mul_of_dvd_right (Int.dvd_mul_of_dvd_right (z a b d e ha hb))) ⟨q, rfl⟩
  · intro z a b d e ha hb
    obtain ⟨q, hq⟩ := key a b d e
    have h1 := z a b d e ha hb
    rw [hq] at h1
    have h2 := (Int.dvd_iff_dvd_of_dvd_add h1).mpr ⟨q, rfl⟩
    exact ck_cancel hc ht (ck_cancel hc ht h2)
theorem pr_keys (hc : isCk c) (ht : t % c ≠ 0) (v : VT c m k l) (v' : VT c m' k' l') (h : Pr c t l l') (x : Str) : x ∈ l.map (·.1) ↔ x ∈ l'.map (·.1) := by
  obtain ⟨hc2, hc7⟩ := ck_range hc
  rw [vt_key v, vt_key v']
  refine not_congr ⟨fun z => ?_, fun z => ?_⟩
  · have := h x
    rw [z, Int.mul_zero, Int.zero_emod, num_mod (by omega) v'] at this
    exact this
  · have := h x
    rw [z, Int.zero_emod] at this
    have h2 := ck_cancel hc ht (Int.dvd_of_emod_eq_zero this.symm)
    rw [← num_mod (by omega) v x]
    exact Int.emod_eq_zero_of_dvd h2
theorem pr_hd (hc : isCk c) (ht : t % c ≠ 0) (v : VT c m k l) (v' : VT c m' k' l') (hne : l ≠ []) (h : Pr c t l l') : hdW l' = hdW l := hd_keys hne (pr_keys hc ht v v' h)
theorem bk_ne (v : VT c m k l) (hl : Lev n l) (hne : l ≠ []) (hs : s ≤ n) : bkT s (hdW l) l ≠ [] := fun z => by
  have hh := hd_len hne hl
  have h1 := num_bk hs hh hl (v := bw s (hdW l))
  rw [fw_bw (by omega), z] at h1
  have h2 := num_pos v (hd_first hne).1
  have h3 : num [] (bw s (hdW l)) = 0 := rfl
  omega
theorem bk_lev (hl : Lev n l) (hs : s ≤ n) (h : Str) : Lev (n - s) (bkT s h l) := fun p hp => (bk_mem hs hl hp).choose_spec.2.2.2
theorem bk_pr (hl : Lev n l) (hl' : Lev n l') (hne : l ≠ []) (hs : s ≤ n) (h : Pr c t l l') : Pr c t (bkT s (hdW l) l) (bkT s (hdW l) l') := fun x => by
  have hh := hd_len hne hl
  rw [num_bk hs hh hl, num_bk hs hh hl']
  exact h _
end
/-- the ways: each part is the shortest that can be cut off -/
inductive Wy (c : Int) : Nat → Tb → List Tb → Prop
  | nil (l : Tb) : Wy c 0 l []
  | cons {n s k : Nat} {l u : Tb} {i : Int} {us : List Tb} (h1 : 1 ≤ s) (h2 : s ≤ n) (nc : NC c s l) (mn : ∀ s', 1 ≤ s' → s' < s → ¬ NC c s' l) (cr : CutR c s n k l i u (bkT s (hdW l) l)) (r : Wy c (n - s) (bkT s (hdW l) l) us) : Wy c n l (canon u :: us)
theorem Wy.scale {c t : Int} (hc : isCk c) (ht : t % c ≠ 0) {n : Nat} {l : Tb} {us : List Tb} (w : Wy c n l us) : ∀ {l' : Tb} {us' : List Tb} {m k m' k' : Nat}, VT c m k l → VT c m' k' l' → Lev n l → Lev n l' → l ≠ [] → Pr c t l l' → Wy c n l' us' → us = us' := by
  induction w with
  | nil l =>
    intro l' us' m k m' k' v v' hl hl' hne h w'
    cases w' with
    | nil => rfl
    | cons h1 h2 => omega
  | @cons n s k0 l u i us h1 h2 nc mn cr r ih =>
    intro l' us' m k m' k' v v' hl hl' hne h w'
    have c0 : 0 < c := by have := ck_range hc; omega
    cases w' with
    | nil => omega
    | @cons _ s2 k2 _ u2 i2 us2 g1 g2 nc2 mn2 cr2 r2 =>
      have es : s = s2 := by
        rcases Nat.lt_trichotomy s s2 with z | z | z
        · exact absurd ((nc_scale hc ht h).mp nc) (mn2 s h1 z)
        · exact z
        · exact absurd ((nc_scale hc ht h).mpr nc2) (mn s2 g1 z)
      subst es
      have eh := pr_hd hc ht v v' hne h
      have hne' : l' ≠ [] := fun z => by
        have := (pr_keys hc ht v v' h _).mp (hd_first hne).1
        rw [z] at this
        cases this
      have e1 : canon u = canon u2 := vt_ext cr.vu cr2.vu fun x => by
        by_cases hx : x.length = s
        · rw [cr.num_u hc v hl h2 hx, cr2.num_u hc v' hl' h2 hx, eh]
          have hi := cr.inv
          have hi2 := cr2.inv
          rw [eh] at hi2
          obtain ⟨q1, p1⟩ := emod_dvd (h (x ++ bw s (hdW l)))
          obtain ⟨q2, p2⟩ := emod_dvd (h (hdW l))
          have h3 : (num l (hdW l) * i) % c = (1 : Int) % c := hi.trans (Int.emod_eq_of_lt (by decide) (by have := ck_range hc; omega)).symm
          have h4 : (num l' (hdW l) * i2) % c = (1 : Int) % c := hi2.trans (Int.emod_eq_of_lt (by decide) (by have := ck_range hc; omega)).symm
          obtain ⟨q3, p3⟩ := emod_dvd h3
          obtain ⟨q4, p4⟩ := emod_dvd h4
          rw [p1]
          rw [p2] at p4
          generalize num l (x ++ bw s (hdW l)) = X at *
          generalize num l (hdW l) = N at *
          refine Int.emod_eq_emod_iff_emod_sub_eq_zero.mpr (Int.emod_eq_zero_of_dvd ?_)
          -- i = i * (t N i2 + ..) and N i = 1 + ..
          refine ⟨X * (i * q2 * i2 - i * q4 + t * i2 * q3) - i2 * q1, ?_⟩
          grind
        · rw [num_not (lev_not (cr.lev_u hc hl h2) hx), num_not (lev_not (cr2.lev_u hc hl' h2) hx)]
      rw [e1]
      congr 1
      rw [eh] at r2
      exact ih (vt_bk h2 v hl) (vt_bk h2 v' hl') (bk_lev hl h2 _) (bk_lev hl' h2 _) (bk_ne v hl hne h2) (bk_pr hl hl' hne h2 h) r2
end Fp

set_option Elab.async false
set_option linter.all false
set_option maxRecDepth 100000
set_option maxHeartbeats 4000000
namespace Fp
open PySem PySem.Spec PyProof.Rows L2
theorem fw_fw {s p : Nat} {z : Str} (h : s ≤ p) (hz : p ≤ z.length) : fw s z = fw s (fw p z) := by
  have e := fw_bw hz
  have h1 := fw_bw (s := s) (z := fw p z) (by rw [fw_len hz]; exact h)
  refine ((app_iff (v := bw s (fw p z) ++ bw p z) (by omega) (fw_len (by rw [fw_len hz]; exact h))).mp ?_).1
  rw [← str_assoc, h1, e]
theorem fw_pre {s : Nat} {u v : Str} (h : s ≤ u.length) : fw s (u ++ v) = fw s u ∧ bw s (u ++ v) = bw s u ++ v := by
  refine (app_iff (by rw [Str.length_append]; omega) (fw_len h)).mp ?_
  rw [← str_assoc, fw_bw h]
section
variable {c : Int} {m m1 m2 k k1 k2 s p q : Nat} {W A B : Tb}
/-- every end of the product is an end of the first one and a word of the second -/
theorem prd_back (hc : isCk c) (v : VT c m k W) (vA : VT c m1 k1 A) (vB : VT c m2 k2 B) (h : Lk c W (prs A B)) (hA : Lev p A) (hB : Lev q B) (hs : s ≤ p) (d : Str) : ∃ d1 y, ∀ a : Str, a.length = s → num W (a ++ d) = (num A (a ++ d1) * num B y) % c := by
  obtain ⟨hc2, hc7⟩ := ck_range hc
  have hW : Lev (p + q) W := lev_lk (by omega) v h (lev_prs hA hB)
  by_cases hd : p - s ≤ d.length
  · refine ⟨fw (p - s) d, bw (p - s) d, fun a ha => ?_⟩
    have := num_prd (by omega) v vA vB h hA (a := a ++ fw (p - s) d) (by rw [Str.length_append, fw_len hd]; omega) (bw (p - s) d)
    rw [str_assoc, fw_bw hd] at this
    exact this
  · refine ⟨d, "", fun a ha => ?_⟩
    rw [num_not (lev_not hW (by rw [Str.length_append]; omega)), num_not (lev_not hA (by rw [Str.length_append]; omega)), Int.zero_mul, Int.zero_emod]
theorem nc_prd (hc : isCk c) (v : VT c m k W) (vA : VT c m1 k1 A) (vB : VT c m2 k2 B) (h : Lk c W (prs A B)) (hA : Lev p A) (hB : Lev q B) (nB : B ≠ []) (hs : s ≤ p) : NC c s W ↔ NC c s A := by
  obtain ⟨hc2, hc7⟩ := ck_range hc
  constructor
  · intro z a b d e ha hb
    by_cases hd : d.length = p - s
    · by_cases he : e.length = p - s
      · have g : ∀ {x y : Str}, x.length = s → y.length = p - s → num W (x ++ (y ++ hdW B)) = (num A (x ++ y) * num B (hdW B)) % c := fun hx hy => by
          rw [← str_assoc]
          exact num_prd (by omega) v vA vB h hA (by rw [Str.length_append]; omega) _
        have h1 := z a b (d ++ hdW B) (e ++ hdW B) ha hb
        rw [g ha hd, g hb he, g ha he, g hb hd] at h1
        have hp := num_pos vB (hd_first nB).1
        have hp2 := not_dvd hp.1 hp.2
        have hT : ∀ x : Int, ∃ r, x % c = x + c * r := fun x => ⟨-(x / c), by have := Int.emod_add_mul_ediv x c; grind⟩
        obtain ⟨r1, e1⟩ := hT (num A (a ++ d) * num B (hdW B))
        obtain ⟨r2, e2⟩ := hT (num A (b ++ e) * num B (hdW B))
        obtain ⟨r3, e3⟩ := hT (num A (a ++ e) * num B (hdW B))
        obtain ⟨r4, e4⟩ := hT (num A (b ++ d) * num B (hdW B))
        rw [e1, e2, e3, e4] at h1
        obtain ⟨w, hw⟩ := h1
        refine ck_cancel hc hp2 (ck_cancel hc hp2 ?_)
        generalize num A (a ++ d) = x1 at *
        generalize num A (b ++ e) = x2 at *
        generalize num A (a ++ e) = x3 at *
        generalize num A (b ++ d) = x4 at *
        generalize num B (hdW B) = g0 at *
        refine ⟨w - (x1 * g0 * r2 + r1 * (x2 * g0) + c * r1 * r2) + (x3 * g0 * r4 + r3 * (x4 * g0) + c * r3 * r4), ?_⟩
        grind
      · rw [num_not (lev_not hA (x := b ++ e) (by rw [Str.length_append]; omega)), num_not (lev_not hA (x := a ++ e) (by rw [Str.length_append]; omega))]
        exact ⟨0, by simp⟩
    · rw [num_not (lev_not hA (x := a ++ d) (by rw [Str.length_append]; omega)), num_not (lev_not hA (x := b ++ d) (by rw [Str.length_append]; omega))]
      exact ⟨0, by simp⟩
  · intro z a b d e ha hb
    obtain ⟨d1, y1, g1⟩ := prd_back hc v vA vB h hA hB hs d
    obtain ⟨e1, y2, g2⟩ := prd_back hc v vA vB h hA hB hs e
    obtain ⟨w, hw⟩ := z a b d1 e1 ha hb
    rw [g1 a ha, g2 b hb, g2 a ha, g1 b hb]
    have hT : ∀ x : Int, ∃ r, x % c = x + c * r := fun x => ⟨-(x / c), by have := Int.emod_add_mul_ediv x c; grind⟩
    obtain ⟨r1, f1⟩ := hT (num A (a ++ d1) * num B y1)
    obtain ⟨r2, f2⟩ := hT (num A (b ++ e1) * num B y2)
    obtain ⟨r3, f3⟩ := hT (num A (a ++ e1) * num B y2)
    obtain ⟨r4, f4⟩ := hT (num A (b ++ d1) * num B y1)
    rw [f1, f2, f3, f4]
    generalize num A (a ++ d1) = x1 at *
    generalize num A (b ++ e1) = x2 at *
    generalize num A (a ++ e1) = x3 at *
    generalize num A (b ++ d1) = x4 at *
    generalize num B y1 = g0 at *
    generalize num B y2 = g3 at *
    refine ⟨w * g0 * g3 + (x1 * g0 * r2 + r1 * (x2 * g3) + c * r1 * r2) - (x3 * g3 * r4 + r3 * (x4 * g0) + c * r3 * r4), ?_⟩
    grind
theorem hd_prd (hc : isCk c) (v : VT c m k W) (vA : VT c m1 k1 A) (vB : VT c m2 k2 B) (h : Lk c W (prs A B)) (hA : Lev p A) (hB : Lev q B) (nA : A ≠ []) (nB : B ≠ []) : hdW W = hdW A ++ hdW B := by
  obtain ⟨hc2, hc7⟩ := ck_range hc
  have hW : Lev (p + q) W := lev_lk (by omega) v h (lev_prs hA hB)
  have hpA := num_pos vA (hd_first nA).1
  have hpB := num_pos vB (hd_first nB).1
  refine hd_uniq ((vt_key v _).mpr fun z => ?_) fun y hy => ?_
  · rw [num_prd (by omega) v vA vB h hA (hd_len nA hA)] at z
    exact not_dvd hpB.1 hpB.2 (Int.emod_eq_zero_of_dvd (ck_cancel hc (not_dvd hpA.1 hpA.2) (Int.dvd_of_emod_eq_zero z)))
  · have hy0 : y.length = p + q := by
      obtain ⟨r, hr, rfl⟩ := List.mem_map.mp hy
      exact hW r hr
    have h1 := (vt_key v y).mp hy
    have h2 := num_prd (by omega) v vA vB h hA (fw_len (s := p) (z := y) (by omega)) (bw p y)
    rw [fw_bw (by omega)] at h2
    rw [h2] at h1
    have k1 : fw p y ∈ A.map (·.1) := (vt_key vA _).mpr fun z => h1 (by rw [z, Int.zero_mul, Int.zero_emod])
    have k2 : bw p y ∈ B.map (·.1) := (vt_key vB _).mpr fun z => h1 (by rw [z, Int.mul_zero, Int.zero_emod])
    have l1 := leR_app_r (z := hdW B) ((hd_first nA).2 _ k1)
    have l2 := leR_app_l (z := fw p y) ((hd_first nB).2 _ k2)
    have := leR_trans l1 l2
    rwa [fw_bw (by omega)] at this
theorem bk_prd (hc : isCk c) (v : VT c m k W) (vA : VT c m1 k1 A) (vB : VT c m2 k2 B) (h : Lk c W (prs A B)) (hA : Lev p A) (hB : Lev q B) (nA : A ≠ []) (nB : B ≠ []) (hs : s ≤ p) : Lk c (bkT s (hdW W) W) (prs (bkT s (hdW A) A) B) := fun y => by
  obtain ⟨hc2, hc7⟩ := ck_range hc
  have hW : Lev (p + q) W := lev_lk (by omega) v h (lev_prs hA hB)
  have nW := prd_ne hc v vA vB h hA nA nB
  have ehd := hd_prd hc v vA vB h hA hB nA nB
  have la := hd_len nA hA
  rw [tot_num (nd_bk (by omega) v.nd hW), num_bk (show s ≤ p + q by omega) (hd_len nW hW) hW, ehd, (fw_pre (by omega)).1, tot_prs y (bk_lev hA hs _)]
  by_cases hy : p - s ≤ y.length
  · rw [if_pos hy, tot_num (nd_bk hs vA.nd hA), tot_num vB.nd, num_bk hs la hA]
    have := num_prd (by omega) v vA vB h hA (a := fw s (hdW A) ++ fw (p - s) y) (by rw [Str.length_append, fw_len hy, fw_len (by omega)]; omega) (bw (p - s) y)
    rw [str_assoc, fw_bw hy] at this
    rw [this, Int.emod_emod_of_dvd _ (Int.dvd_refl c)]
  · rw [if_neg hy, num_not (lev_not hW (by rw [Str.length_append, fw_len (by omega)]; omega))]
end
theorem Wy.prd {c : Int} (hc : isCk c) {p : Nat} {A : Tb} {us : List Tb} (w : Wy c p A us) : ∀ {W B : Tb} {vs ws : List Tb} {m k m1 k1 m2 k2 q N : Nat}, N = p + q → VT c m k W → VT c m1 k1 A → VT c m2 k2 B → Lk c W (prs A B) → Lev p A → Lev q B → A ≠ [] → B ≠ [] → Wy c q B vs → Wy c N W ws → ws = us ++ vs := by
  induction w with
  | nil A =>
    intro W B vs ws m k m1 k1 m2 k2 q N hN v vA vB h hA hB nA nB wB wW
    obtain ⟨hc2, hc7⟩ := ck_range hc
    have eh : hdW A = "" := len_zero (hd_len nA hA)
    have hp := num_pos vA (hd_first nA).1
    rw [eh] at hp
    subst hN
    rw [Nat.zero_add] at wW
    have hW : Lev q W := by
      have := lev_lk (by omega) v h (lev_prs hA hB)
      rwa [Nat.zero_add] at this
    refine (Wy.scale hc (not_dvd hp.1 hp.2) wB vB v hB hW nB (fun x => ?_) wW).symm
    have := num_prd (by omega) v vA vB h hA (a := "") rfl x
    rw [str_nil_l] at this
    rw [this, Int.emod_emod_of_dvd _ (Int.dvd_refl c)]
  | @cons n s k0 l u i us h1 h2 nc mn cr r ih =>
    intro W B vs ws m k m1 k1 m2 k2 q N hN v vA vB h hA hB nA nB wB wW
    obtain ⟨hc2, hc7⟩ := ck_range hc
    have hW : Lev (n + q) W := lev_lk (by omega) v h (lev_prs hA hB)
    have nW := prd_ne hc v vA vB h hA nA nB
    have ehd := hd_prd hc v vA vB h hA hB nA nB
    have la := hd_len nA hA
    cases wW with
    | nil => omega
    | @cons _ s2 k2' _ u2 i2 us2 g1 g2 nc2 mn2 cr2 r2 =>
      have es : s = s2 := by
        rcases Nat.lt_trichotomy s s2 with z | z | z
        · exact absurd ((nc_prd hc v vA vB h hA hB nB h2).mpr nc) (mn2 s h1 z)
        · exact z
        · exact absurd ((nc_prd hc v vA vB h hA hB nB (by omega)).mp nc2) (mn s2 g1 z)
      subst es
      subst hN
      have e1 : canon u = canon u2 := vt_ext cr.vu cr2.vu fun x => by
        by_cases hx : x.length = s
        · rw [cr.num_u hc vA hA h2 hx, cr2.num_u hc v hW g2 hx, ehd, (fw_pre (by omega)).2, ← str_assoc, num_prd (by omega) v vA vB h hA (by rw [Str.length_append, bw_len (by omega)]; omega)]
          have hi := cr.inv
          have hi2 := cr2.inv
          rw [ehd, num_prd (by omega) v vA vB h hA la] at hi2
          have hT : ∀ x : Int, ∃ r, x % c = x + c * r := fun x => ⟨-(x / c), by have := Int.emod_add_mul_ediv x c; grind⟩
          obtain ⟨r1, f1⟩ := hT (num l (x ++ bw s (hdW l)) * num B (hdW B))
          obtain ⟨r2, f2⟩ := hT (num l (hdW l) * num B (hdW B))
          obtain ⟨q3, p3⟩ := emod_dvd (hi.trans (Int.emod_eq_of_lt (show (0 : Int) ≤ 1 by decide) (show (1 : Int) < c by omega)).symm)
          obtain ⟨q4, p4⟩ := emod_dvd (hi2.trans (Int.emod_eq_of_lt (show (0 : Int) ≤ 1 by decide) (show (1 : Int) < c by omega)).symm)
          rw [f1]
          rw [f2] at p4
          generalize num l (x ++ bw s (hdW l)) = X at *
          generalize num l (hdW l) = N at *
          generalize num B (hdW B) = g0 at *
          refine Int.emod_eq_emod_iff_emod_sub_eq_zero.mpr (Int.emod_eq_zero_of_dvd ?_)
          refine ⟨X * (i * r2 * i2 - i * q4 + g0 * i2 * q3) - i2 * r1, ?_⟩
          grind
        · rw [num_not (lev_not (cr.lev_u hc hA h2) hx), num_not (lev_not (cr2.lev_u hc hW g2) hx)]
      rw [List.cons_append, e1]
      congr 1
      exact ih (by omega) (vt_bk (by omega) v hW) (vt_bk h2 vA hA) vB (bk_prd hc v vA vB h hA hB nA nB h2) (bk_lev hA h2 _) hB (bk_ne vA hA nA h2) nB wB r2
end Fp

set_option Elab.async false
set_option linter.all false
set_option maxRecDepth 100000
set_option maxHeartbeats 4000000
namespace Fp
open PySem PySem.Spec PyProof.Rows L2
/-! ### == and != of bags -/
section
variable {X : Cx}
theorem opEq (T : Top X.K X.mg) (hr : Room 1 X.A) : OpR X (compareOp .Eq) (rOwnEq X.K (He.ga X.K "Bag") (spEqB X.K)) := by
  obtain ⟨fd, F, b⟩ := ok_eq (P := X.prog) (w := X.w) (base := X.base) T
  exact op_ownEq F (m_Bag___eq__ T).at_ (m_Bag___eq__ T).fn b hr
theorem opNe (T : Top X.K X.mg) (hr : Room 2 X.A) : OpR X (compareOp .NotEq) (rOwnNe X.K (He.ga X.K "Bag") (spEqB X.K)) := by
  obtain ⟨fd, F, b⟩ := ok_eq (P := X.prog) (w := X.w) (base := X.base) T
  exact op_ownNe F (x_ne T) (m_Bag___eq__ T).at_ (m_Bag___eq__ T).fn (x_mro T) b hr
/-- the same bag at two places -/
def Rb (K : PySem.W.Frag) : Addr → Addr → Hp → Prop := fun a b H => ∃ c L, BagAt K H a c L ∧ BagAt K H b c L
def rNeT (K : PySem.W.Frag) : R2 := fun x y H Q => DTup K (DIns (He.ga K "Bag") (Rb K)) x y H ∧ ∀ H', Ext H H' → Q (.bl false) H'
theorem opNeT (T : Top X.K X.mg) (hr : Room 2 X.A) : OpR X (compareOp .NotEq) (rNeT X.K) := by
  obtain ⟨fd, F, b⟩ := ok_eq (P := X.prog) (w := X.w) (base := X.base) T
  refine op_neTG (mon_ins fun a b H H' e ⟨c, L, h1, h2⟩ => ⟨c, L, h1.same e, h2.same e⟩) (eqG_ins (E := E0) (F.weak fun vs H Q E z => ?_) (m_Bag___eq__ T).at_ (m_Bag___eq__ T).fn b pass0) hr
  obtain ⟨a, b, rfl, ⟨c, L, ha, hb⟩, q⟩ := z
  exact ⟨a, .ref b, c, L, rfl, ha, .inl ⟨b, c, L, rfl, hb, by rw [decide_eq_true (show c = c ∧ L = L from ⟨rfl, rfl⟩)]; exact q H Ext.rfl'⟩⟩
end
section
variable {P : Program} {w : World} {K : PySem.W.Frag} {mg : Str → Option Value} {base : Heap}
theorem nf_own (C : Addr) : PySem.W.notFirst K C (.ref C) = true := by simp [PySem.W.notFirst]
theorem rd_eq (T : Top K mg) {H : Hp} {a b : Addr} {c c' : Int} {L M : Tb} {Q : VK} (ha : BagAt K H a c L) (hb : BagAt K H b c' M) (q : Q (.bl (decide (c = c' ∧ L = M))) H) : rOwnEq K (He.ga K "Bag") (spEqB K) (.ref a) (.ref b) H Q := by
  obtain ⟨dx, t, h1, h2⟩ := id ha
  obtain ⟨dy, t', h3, h4⟩ := id hb
  exact ⟨a, dx, _, .ref (He.ga K "Bag"), rfl, h1, .base (.ins h3 (cls_Bag T) (x_class T) (x_get T) (x_takes T) (x_mro T)), nf_own _, a, .ref b, c, L, rfl, ha, .inl ⟨b, c', M, rfl, hb, _, rfl, q⟩⟩
theorem rd_ne (T : Top K mg) {H : Hp} {a b : Addr} {c c' : Int} {L M : Tb} {Q : VK} (ha : BagAt K H a c L) (hb : BagAt K H b c' M) (q : Q (.bl (!decide (c = c' ∧ L = M))) H) : rOwnNe K (He.ga K "Bag") (spEqB K) (.ref a) (.ref b) H Q := by
  obtain ⟨dx, t, h1, h2⟩ := id ha
  obtain ⟨dy, t', h3, h4⟩ := id hb
  exact ⟨a, dx, _, .ref (He.ga K "Bag"), rfl, h1, .base (.ins h3 (cls_Bag T) (x_class T) (x_get T) (x_takes T) (x_mro T)), nf_own _, a, .ref b, c, L, rfl, ha, .inl ⟨b, c', M, rfl, hb, _, rfl, q⟩⟩

theorem rd_neT {H : Hp} {t t' a b a' b' : Addr} {c c' : Int} {L M : Tb} {Q : VK} (e : H t = some (.tup [.ref a, .ref b])) (e' : H t' = some (.tup [.ref a', .ref b'])) (h1 : BagAt K H a c L) (h2 : BagAt K H a' c L) (h3 : BagAt K H b c' M) (h4 : BagAt K H b' c' M) (q : ∀ H', Same H H' → Q (.bl false) H') : rNeT K (.ref t) (.ref t') H Q := by
  have ins : ∀ {x y : Addr} {c : Int} {L : Tb}, BagAt K H x c L → BagAt K H y c L → DIns (He.ga K "Bag") (Rb K) (.ref x) (.ref y) H := fun {x y c L} hx hy => by
    obtain ⟨dx, _, z1, _⟩ := id hx
    obtain ⟨dy, _, z2, _⟩ := id hy
    exact ⟨x, y, dx, dy, _, _, rfl, rfl, z1, z2, c, L, hx, hy⟩
  exact ⟨⟨t, t', _, _, rfl, rfl, .inl (.inl e), .inl (.inl e'), Prs.cons (ins h1 h2) (Prs.cons (ins h3 h4) Prs.nil)⟩, q⟩
end
end Fp

set_option Elab.async false
set_option linter.all false
set_option maxRecDepth 100000
set_option maxHeartbeats 4000000
namespace Fp
open PySem PySem.Spec PyProof.Rows L2
/-- bags in a row -/
def BagsAt (K : PySem.W.Frag) (H : Hp) (c : Int) (ps : List (Addr × Tb)) : Prop := ∀ p ∈ ps, BagAt K H p.1 c p.2
theorem BagsAt.same {K : PySem.W.Frag} {H H' : Hp} {c : Int} {ps : List (Addr × Tb)} (h : BagsAt K H c ps) (s : Same H H') : BagsAt K H' c ps := fun p hp => (h p hp).same s
theorem canon_hd {l : Tb} {p : Str × Int} {r : Tb} (e : canon l = p :: r) : p.1 = hdW l ∧ p.2 = num l (hdW l) := by
  unfold canon at e
  unfold hdW
  cases ho : ordW l with
  | nil => rw [ho] at e; cases e
  | cons x xs =>
    rw [ho, List.map_cons] at e
    injection e with e1 e2
    rw [← e1]
    exact ⟨rfl, rfl⟩
theorem nc_full {c : Int} {n : Nat} {l : Tb} {m k : Nat} (hc : isCk c) (v : VT c m k l) (hl : Lev n l) (hne : l ≠ []) : NC c n l := (crs_nc hc v hl hne (Nat.le_refl n)).mp (crs_full hl)
theorem cutR_tab {c : Int} {s n m k : Nat} {l : Tb} {i : Int} (hc : isCk c) (v : VT c m k l) (hl : Lev n l) (hne : l ≠ []) (hs : s ≤ n) (hi : (num l (hdW l) * i) % c = 1) (i1 : 1 ≤ i) (ic : i < c) : CutR c s n k l i (tidyM c (scl i (frT s (hdW l) l))) (bkT s (hdW l) l) := by
  obtain ⟨hc2, hc7⟩ := ck_range hc
  have c0 : 0 < c := by omega
  have vF := vt_fr (h := hdW l) hs v hl
  obtain ⟨w1, w2⟩ := vt_scl (f := i) c0 vF
  have hlc := lev_canon hl
  have hh := hd_len hne hl
  refine ⟨w1, vt_bk hs v hl, w2.trans (Lk.scl i fun x => ?_), fun x => ?_, hi, i1, ic⟩
  · rw [tot_num vF.nd, tot_num (nd_fr hs (canon_nd v.nd) hlc)]
    by_cases hx : x.length = s
    · rw [num_fr hs hl hx, num_fr hs hlc hx, canon_num v.nd]
    · have g1 : Lev s (frT s (hdW l) l) := fun q hq => (fr_mem hs hl hq).choose_spec.2.2.2
      have g2 : Lev s (frT s (hdW l) (canon l)) := fun q hq => (fr_mem hs hlc hq).choose_spec.2.2.2
      rw [num_not (lev_not g1 hx), num_not (lev_not g2 hx)]
  · rw [tot_num (nd_bk hs v.nd hl), tot_num (nd_bk hs (canon_nd v.nd) hlc), num_bk hs hh hl, num_bk hs hh hlc, canon_num v.nd]
section
variable {P : Program} {w : World} {K : PySem.W.Frag} {mg : Str → Option Value} {base : Heap}
def spLW (K : PySem.W.Frag) : Sp := fun vs H Q _ => ∃ (a : Addr) (n m k : Nat) (c : Int) (l : Tb), vs = [.ref a] ∧ Bg K H a c m k l ∧ isCk c ∧ l ≠ [] ∧ Lev n l ∧ n ≤ 1000 ∧ m ≤ 1000 ∧ k ≤ 1000 ∧
  ∀ H' t ps lp j, Same H H' → H t = none → H' t = some (.tup (ps.map fun p => V.ref p.1)) → BagsAt K H' c ps → VT c m k lp → Lk c lp (scl j l) → (num l (hdW l) * j) % c = 1 → Wy c n lp (ps.map (·.2)) → Q (.ref t) H'
abbrev nLW : List Str := ["bag", "found", "left", "size", "halves"]
theorem sc_lw : FnScope nLW ["bag"] (defScope s_level_way) := ⟨rfl, rfl, rfl, by decide +kernel, rfl, by decide +kernel, by decide +kernel⟩
theorem ok_lw (T : Top K mg) : Ok P w K mg base 10 "level_way" ["bag"] (spLW K) := by
  obtain ⟨fd, F⟩ := fn_level_way T
  refine ⟨⟨fd, ?_, F.bindsN fun _ _ _ _ _ _ us hl => match us, hl with | [_], _ => rfl⟩, g_level_way T, F.kp⟩
  refine F.ok sc_lw (fun vs H Q E h => ?_) (fun cdv A outer s H vs Q E hr h => ?_)
  · obtain ⟨a, n, m, k, c, l, rfl, _⟩ := h
    rfl
  · obtain ⟨a, n, m, k, c, l, rfl, g, hck, hne, hl, hn, hm, hk, q⟩ := h
    have nd := sc_lw.nd
    have hs : sizeLine = 16777216 := sizeLine_eq
    have hr1 : Room 1 _ := hr.mono (by decide)
    have hr2 : Room 2 _ := hr.mono (by decide)
    have hr4 : Room 4 _ := hr.mono (by decide)
    have hr7 : Room 7 _ := hr.mono (by decide)
    obtain ⟨hc2, hc7⟩ := ck_range hck
    have c0 : 0 < c := by omega
    refine ⟨_, PSs.nox (pss_cons (ps_expr (pc (ok_ckLev T) hr2 (pa_cons (pv 0) pa_nil)))
      (pss_cons (ps_set (i := 1) nd rfl (Or.inl rfl) (pe_lst pa_nil))
      (pss_cons (ps_set (i := 2) nd rfl (Or.inl rfl) (pc (ok_table_of T) hr1 (pa_cons (pcL (ok_plain T) hr (pa_cons (pv 0) pa_nil)) pa_nil)))
      (pss_cons (ps_set (i := 3) nd rfl (Or.inl rfl) pe_int)
      (pss_cons (ps_while PassesOwn.never (pt_cmpR op_le (pv 3) (pe_callB call_len_str (by rfl) (f_len T) PySem.boot_len (pa_cons (pc (ok_firstW T) hr4 (pa_cons (pv 2) pa_nil)) pa_nil)) (nomark _))
        (pss_cons (ps_set (i := 4) nd rfl (Or.inl rfl) (pc (ok_halved T) hr7 (pa_cons (pv 2) (pa_cons (pv 3) (pa_cons (pe_fld (pv 0) rfl) pa_nil)))))
        (pss_one (ps_if (pt_cmpR op_isN (pv 4) pe_non (nomark _)) (pss_one (ps_aug (i := 3) nd rfl (.inl rfl) pe_int ip_add))
          (pss_cons (ps_expr (pe_bm PySem.F.plainAttrs_list PySem.F.slot_list_append PySem.F.type_list_append mt_append (pv 1) (pa_cons (pc (ok_bag_of T) hr7 (pa_cons (pe_fld (pv 0) rfl) (pa_cons (pe_ix ix_tup (pv 4) pe_int (fun _ _ => rfl)) pa_nil))) pa_nil)))
          (pss_cons (ps_set (i := 2) nd rfl (Or.inl rfl) (pe_ix ix_tup (pv 4) pe_int (fun _ _ => rfl)))
          (pss_one (ps_set (i := 3) nd rfl (Or.inl rfl) pe_int))))))))
      (pss_one (ps_ret (pe_callTy call_tuple_of (by rfl) (f_tuple T) (by decide +kernel) (pa_cons (pv 1) pa_nil))))))))), ?_⟩
    have vl := g.2.ln
    refine ⟨_, rfl, a, c, canon l, n, rfl, g.1, canon_nil hne, lev_canon hl, hn, by have := (vt_canon g.2).ln; omega, fun H1 s1 => ?_⟩
    replace g := g.same s1
    refine ⟨by show 0 ≤ sizeLine; omega, fun F0 nF => ?_⟩
    have s2 := same_upd (o := .lst []) nF
    have eF := upd_same (H := H1) (a := F0) (o := HO.lst [])
    replace g := g.same s2
    have hF0 : H F0 = none := s1.free nF
    have sH := s1.trans s2
    generalize upd H1 F0 (.lst []) = H2 at g eF sH ⊢
    clear s1 s2 nF
    have hpos := num_pos g.2 (hd_first hne).1
    refine ⟨_, rfl, a, c, m, k, l, rfl, g, hck, by omega, by omega, fun p r ep j hj1 hjc hj H3 b t s3 nb gb lt => ?_, fun e => absurd e (canon_nil hne)⟩
    rw [(canon_hd ep).2] at hj
    replace g := g.same s3
    replace eF := s3 _ _ eF
    replace sH := sH.trans s3
    clear ep s3 nb
    refine ⟨b, c, canon t, rfl, gb.1, canon_nd gb.2.nd, fun D nD => ?_⟩
    have s4 := same_upd (o := .dK (kv (canon t))) nD
    have eD := upd_same (H := H3) (a := D) (o := HO.dK (kv (canon t)))
    replace g := g.same s4
    replace eF := s4 _ _ eF
    replace sH := sH.trans s4
    generalize upd H3 D (.dK (kv (canon t))) = H4 at g eF eD sH ⊢
    have vp := vt_canon gb.2
    have lp := (lk_canon (c := c) gb.2.nd).trans lt
    clear s4 nD
    have hlp : Lev n (canon t) := lev_canon (lev_lk c0 gb.2 lt fun p hp => by
      obtain ⟨y, hy, rfl⟩ := List.mem_map.mp hp
      exact hl y hy)
    have hnp : canon t ≠ [] := fun z => by
      have h1 := lk_num c0 vp lp (hdW l)
      rw [tot_scl, tot_num g.2.nd, Int.mul_comm, hj, z] at h1
      cases h1
    clear gb lt
    generalize canon t = lp0 at vp lp hlp hnp eD ⊢
    have q' : ∀ H' t ps, Same H H' → H t = none → H' t = some (HO.tup (List.map (fun p => V.ref p.fst) ps)) → BagsAt K H' c ps → Wy c n lp0 (List.map (fun x => x.snd) ps) → Q (V.ref t) H' := fun H' t ps h1 h2 h3 h4 h5 => q H' t ps lp0 j h1 h2 h3 h4 vp lp hj h5
    clear q lp hj hj1 hjc hpos
    refine ⟨fun μ σ G => ∃ (r : Tb) (dr : Addr) (nr sz m' : Nat) (x4 : Option V) (ps : List (Addr × Tb)), σ = [some (.ref a), some (.ref F0), some (.ref dr), some (.int (sz : Nat)), x4] ∧ Bg K G a c m k l ∧ G F0 = some (.lst (ps.map fun p => V.ref p.1)) ∧ G dr = some (.dK (kv r)) ∧ BagsAt K G c ps ∧ VT c m' k r ∧ Lev nr r ∧ r ≠ [] ∧ 1 ≤ sz ∧ sz ≤ nr + 1 ∧ nr ≤ 1000 ∧
      (∀ s', 1 ≤ s' → s' < sz → ¬ NC c s' r) ∧ (∀ us, Wy c nr r us → Wy c n lp0 (ps.map (·.2) ++ us)) ∧ Same H G ∧ ps.length + nr ≤ n ∧ μ = nr * 1001 + (nr + 1 - sz),
      ⟨_, lp0, D, n, 1, m, _, [], rfl, g, eF, eD, (fun p hp => by cases hp), vp, hlp, hnp, Nat.le_refl 1, by omega, hn, (fun s' h1 h2 => by omega), (fun us h => h), sH, by simp, rfl⟩, ?_⟩
    clear g eF eD sH hlp hnp vp
    rintro μ σ G ⟨r, dr, nr, sz, m', x4, ps, rfl, g, eF, er, bs, vr, hr0, rne, sz1, sz2, hnr, mn, wy, sH, hps, rfl⟩
    have hrk := vr.ln
    refine ⟨_, rfl, _, rfl, dr, kv r, r.map (·.1), rfl, er, kv_keys' r, by simpa using rne, fun x hx => ?_, fun m0 hm0 hmin => ?_⟩
    · obtain ⟨p, hp, rfl⟩ := List.mem_map.mp hx
      rw [hr0 p hp]
      omega
    have hm0l : m0.length = nr := by
      obtain ⟨p, hp, rfl⟩ := List.mem_map.mp hm0
      exact hr0 p hp
    refine ⟨m0, rfl, by omega, _, _, rfl, rfl, _, rfl, ?_⟩
    rw [hm0l]
    refine ite2 (fun hb => ?_) (fun hb => ?_)
    · have hsn : sz ≤ nr := by
        have := of_decide_eq_true hb
        omega
      refine ⟨_, fun _ _ h => h, ?_⟩
      obtain ⟨dx, tw, ea, wa⟩ := id g.1
      refine ⟨_, rfl, _, rfl, _, rfl, a, _, dx, _, _, rfl, ea, cls_Bag T, na_Bag_clock T, flds_clock _ _, dr, sz, nr, m', k, c, r, rfl, er, hck, vr, rne, hr0, hsn, hnr, hk, fun hx G1 s1 => ?_, fun hx G1 t F B i s1 nt nF nB nFB et hi i1 ic eF1 eB1 => ?_⟩
      · have hxn : ¬ NC c sz r := fun z => hx ((cross_nc_iff hck vr hr0 rne hsn).mpr z)
        refine ⟨_, rfl, rfl, _, rfl, iteT ?_⟩
        refine ⟨_, rfl, _, _, rfl, rfl, ?_⟩
        refine ⟨_, ?_, r, dr, nr, sz + 1, m', _, ps, rfl, g.same s1, s1 _ _ eF, s1 _ _ er, bs.same s1, vr, hr0, rne, by omega, by omega, hnr, fun s' h1 h2 => ?_, wy, sH.trans s1, hps, rfl⟩
        · omega
        · rcases Nat.lt_or_ge s' sz with z | z
          · exact mn s' h1 z
          · have : s' = sz := by omega
            subst this
            exact hxn
      · have hxn : NC c sz r := (cross_nc_iff hck vr hr0 rne hsn).mp hx
        have cr := cutR_tab hck vr hr0 rne hsn hi i1 ic
        replace g := g.same s1
        replace eF := s1 _ _ eF
        replace bs := bs.same s1
        replace sH := sH.trans s1
        replace ea := s1 _ _ ea
        refine ⟨_, rfl, rfl, _, rfl, iteF ?_⟩
        have hFn : ∀ p ∈ tidyM c (scl i (frT sz (hdW r) r)), p.1.length ≤ 1000000 := fun p hp => by
          have := cr.lev_u hck hr0 hsn p hp
          omega
        refine ⟨_, rfl, .inl ⟨rfl, _, SqL.of eF⟩, _, rfl, a, _, dx, _, _, rfl, ea, cls_Bag T, na_Bag_clock T, flds_clock _ _, _, rfl, t, _, 0, _, rfl, rfl, .inl (.inl et), rfl, c, F, _, rfl, hck, eF1, cr.vu.nd, hFn, by have := cr.vu.ln; omega, fun G2 b s2 nb gb => ?_⟩
        have ec : canon (tidyM c (tidyM c (scl i (frT sz (hdW r) r)))) = canon (tidyM c (scl i (frT sz (hdW r) r))) := lk_same c0 (vt_again c0 cr.vu).1 cr.vu (lk_tidy cr.vu.nd)
        rw [ec] at gb
        replace g := g.same s2
        replace eF := s2 _ _ eF
        replace bs := bs.same s2
        replace sH := sH.trans s2
        replace et := s2 _ _ et
        replace eB1 := s2 _ _ eB1
        generalize tidyM c (scl i (frT sz (hdW r) r)) = tu at cr gb
        have lst : ∃ xs, G2 F0 = some (.lst xs) := ⟨_, eF⟩
        have kb : But F0 G2 (upd G2 F0 (.lst (ps.map (fun p => V.ref p.1) ++ [.ref b]))) := but_upd
        refine ⟨F0, _, _, rfl, rfl, eF, by rw [List.length_map]; omega, ?_⟩
        refine ⟨_, rfl, t, _, 1, _, rfl, rfl, .inl (.inl (kb _ _ et (ne_of et eF (by intro y; cases y)))), rfl, ?_⟩
        refine ⟨_, ?_, bkT sz (hdW r) r, B, nr - sz, 1, nr - sz, _, ps ++ [(b, canon tu)], rfl, ⟨g.1.but kb lst, g.2⟩, ?_, kb _ _ eB1 (ne_of eB1 eF (by intro y; cases y)), ?_, cr.vv, bk_lev hr0 hsn _, bk_ne vr hr0 rne hsn, by omega, by omega, by omega, fun s' h1 h2 => by omega, fun us hus => ?_, fun b' o e => ?_, ?_, rfl⟩
        · omega
        · rw [upd_same, List.map_append]
          rfl
        · intro p hp
          rcases List.mem_append.mp hp with hp | hp
          · exact (bs p hp).but kb lst
          · have : p = (b, canon tu) := by simpa using hp
            subst this
            exact gb.but kb lst
        · have := wy _ (Wy.cons sz1 hsn hxn mn cr hus)
          rw [List.map_append, List.append_assoc]
          exact this
        · exact kb _ _ (sH _ _ e) (ne_of_none e hF0)
        · rw [List.length_append]
          show ps.length + 1 + (nr - sz) ≤ n
          omega
    · have hsn : ¬ sz ≤ nr := fun z => hb (decide_eq_true (by omega))
      have e0 : nr = 0 := by
        rcases Nat.eq_zero_or_pos nr with z | z
        · exact z
        · exact absurd (nc_full hck vr hr0 rne) (mn nr z (by omega))
      subst e0
      refine ⟨_, rfl, F0, _, rfl, .inl ⟨SqL.of eF, fun t nt => ?_⟩⟩
      have s9 := same_upd (o := .tup (ps.map fun p => V.ref p.1)) nt
      have := wy [] (Wy.nil r)
      rw [List.append_nil] at this
      exact q' _ t ps (sH.trans s9) (sH.free nt) upd_same (bs.same s9) this
end
end Fp

set_option Elab.async false
set_option linter.all false
set_option maxRecDepth 100000
set_option maxHeartbeats 4000000
namespace Fp
open PySem PySem.Spec PyProof.Rows L2
def fl (p : Nat → Bool) (i : Nat) : List Nat := (List.range i).filter p
theorem fl_succ (p : Nat → Bool) (i : Nat) : fl p (i + 1) = if p i = true then fl p i ++ [i] else fl p i := by
  unfold fl
  rw [List.range_succ, List.filter_append]
  by_cases h : p i = true
  · rw [if_pos h, List.filter_cons_of_pos h]
    rfl
  · rw [if_neg h, List.filter_cons_of_neg (by simpa using h)]
    simp
theorem fl_len (p : Nat → Bool) (i : Nat) : (fl p i).length ≤ i := by
  refine Nat.le_trans (List.length_filter_le _ _) ?_
  rw [List.length_range]
  exact Nat.le_refl _
theorem fl_mem {p : Nat → Bool} {i k : Nat} : k ∈ fl p i ↔ k < i ∧ p k = true := by
  unfold fl
  rw [List.mem_filter, List.mem_range]
theorem paired_get {α β : Type} {F : α → β → Prop} {as : List α} {bs : List β} (h : Paired F as bs) : ∀ {i : Nat} {b : β}, bs[i]? = some b → ∃ a, as[i]? = some a ∧ F a b := by
  induction h with
  | nil => intro i b e; simp at e
  | @cons a b' as bs h t ih =>
    intro i b e
    cases i with
    | zero =>
      have : b' = b := by simpa using e
      exact ⟨a, rfl, this ▸ h⟩
    | succ i => exact ih (by simpa using e)
def rowV (l : Tb) (ys : List Str) (f : Str) : List V := ys.map fun e => V.int (num l (f ++ e))
section
variable {P : Program} {w : World} {K : PySem.W.Frag} {mg : Str → Option Value} {base : Heap}
def spCBC : Sp := fun vs H Q _ => ∃ (c : Int) (d : Addr) (s n m k : Nat) (l : Tb), vs = [.int c, .ref d, .int s] ∧ isCk c ∧ H d = some (.dK (kv l)) ∧ VT c m k l ∧ l ≠ [] ∧ Lev n l ∧ s ≤ n ∧ n ≤ 1000 ∧ k ≤ 60 ∧ ∀ H' b, Same H H' → (b = true → ¬ CrsB c s l) → Q (.bl b) H'
abbrev nCBC : List Str := ["_law_clock_here", "_law_bag", "_law_letters", "_law_fronts", "_law_ends", "_law_rows", "_law_at", "_law_row", "_law_factor", "_law_word", "_law_end", "_law_front", "_law_k"]
abbrev scFr : Scope := { kind := ScopeKind.function, names := [(".0", NameKind.local), ("_law_front", NameKind.cell), ("_law_bag", NameKind.cell), ("_law_ends", NameKind.cell)], isGenerator := false, isCoroutine := false, more := [] }
theorem sc_cbc : FnScope nCBC ["_law_clock_here", "_law_bag", "_law_letters"] (defScope s__law_can_be_cut) := ⟨rfl, rfl, rfl, by decide +kernel, rfl, by decide +kernel, by decide +kernel⟩
theorem ok_cbc (T : Top K mg) : Ok P w K mg base 2 "_law_can_be_cut" ["_law_clock_here", "_law_bag", "_law_letters"] spCBC := by
  obtain ⟨fd, F⟩ := fn__law_can_be_cut T
  refine ⟨⟨fd, ?_, F.bindsN fun _ _ _ _ _ _ us hl => match us, hl with | [_, _, _], _ => rfl⟩, g__law_can_be_cut T, F.kp⟩
  refine F.ok sc_cbc (fun vs H Q E h => ?_) (fun cdv A outer s0 H vs Q E hr h => ?_)
  · obtain ⟨c, d, s, n, m, k, l, rfl, _⟩ := h
    rfl
  · obtain ⟨c, d, s, n, m, k, l, rfl, hck, hd, v, hne, hl, hsn, hn, hk, q⟩ := h
    have nd := sc_cbc.nd
    have hu := hu_of hr
    have hs : sizeLine = 16777216 := sizeLine_eq
    obtain ⟨hc2, hc7⟩ := ck_range hck
    have hll : l.length ≤ 60 := Nat.le_trans v.ln hk
    refine ⟨_, PSs.nox (pss_cons (ps_set (i := 3) nd rfl (Or.inl rfl) (pe_callB (cr_sortedTx rfl) (by rfl) (f_sorted T) (by decide +kernel) (pa_cons (pe_callTy (cr_setTx rfl) (by rfl) (f_set T) (by decide +kernel) (pa_cons (pe_lock (pe_lc (own := [("_law_word", 9)]) (g := gName 9) (tt := tYes) rfl nd (pi_keys (pv 1)) (blkOk_by (N := nCBC) (sc := defScope s__law_can_be_cut) (by decide +kernel)) (fun _ _ _ _ _ => pg_name (i := 9) nd rfl (Or.inl rfl)) (fun _ _ _ _ _ => by exact pts_nil) (fun _ _ _ _ _ => by exact pe_slice sl_str (pv 9) po_none (po_some (pv 2))))) pa_nil)) pa_nil)))
      (pss_cons (ps_set (i := 4) nd rfl (Or.inr rfl) (pe_callB (cr_sortedTx rfl) (by rfl) (f_sorted T) (by decide +kernel) (pa_cons (pe_callTy (cr_setTx rfl) (by rfl) (f_set T) (by decide +kernel) (pa_cons (pe_lock (pe_lc (own := [("_law_word", 9)]) (g := gName 9) (tt := tYes) rfl nd (pi_keys (pv 1)) (blkOk_by (N := nCBC) (sc := defScope s__law_can_be_cut) (by decide +kernel)) (fun _ _ _ _ _ => pg_name (i := 9) nd rfl (Or.inl rfl)) (fun _ _ _ _ _ => by exact pts_nil) (fun _ _ _ _ _ => by exact pe_slice sl_str (pv 9) (po_some (pv 2)) po_none))) pa_nil)) pa_nil)))
      (pss_cons (ps_set (i := 5) nd rfl (Or.inr rfl) (pe_lc (te := tLc (iList K (tVar 4)) (gName 10) tYes (tDGet2 (tVar 1) (tOp (fun x y H Q => ∃ i j, x = .str i ∧ y = .str j ∧ i.length + j.length ≤ sizeLine ∧ Q (.str (i ++ j)) H) (tVar 11) (tVar 10)) (tC (.int 0))) [10]) (own := [("_law_front", 11)]) (g := gName 11) (tt := tYes) rfl nd (pi_list (pv 3)) (blkOk_by (N := nCBC) (sc := defScope s__law_can_be_cut) (by decide +kernel)) (fun _ _ _ _ _ => pg_name (i := 11) nd rfl (Or.inr rfl)) (fun _ _ _ _ _ => by exact pts_nil)
        (fun _ _ _ _ _ => by exact pe_lc (own := [("_law_end", 10)]) (g := gName 10) (tt := tYes) rfl nd (pi_list (pv 4)) (blkOk_by (N := nCBC) (sc := scFr) (by decide +kernel)) (fun _ _ _ _ _ => pg_name (i := 10) nd rfl (Or.inl rfl)) (fun _ _ _ _ _ => by exact pts_nil) (fun _ _ _ _ _ => by exact pe_dget2 hu (pv 1) (pe_op op_add_str (pv 11) (pv 10)) pe_int ⟨rfl, rfl, rfl, rfl⟩))))
      (pss_cons (ps_set (i := 6) nd rfl (Or.inl rfl) (pe_ix ix_list (pe_lc (own := [("_law_k", 12)]) (g := gName 12) (te := tVar 12) rfl nd (pi_range1 (by rfl) (f_range T) (pa_cons (pe_callB call_len_seq (by rfl) (f_len T) PySem.boot_len (pa_cons (pv 4) pa_nil)) pa_nil)) (blkOk_by (N := nCBC) (sc := defScope s__law_can_be_cut) (by decide +kernel)) (fun _ _ _ _ _ => pg_name (i := 12) nd rfl (Or.inl rfl)) (fun _ _ _ _ _ => by exact pts_one (pt_cmpR op_ne (pe_ix (r := rIxL K) ix_list (pe_ix (r := rIxL K) ix_list (pv 5) pe_int (fun _ _ => rfl)) (pv 12) (fun _ _ => rfl)) pe_int (nomark _))) (fun _ _ _ _ _ => by exact pv 12)) pe_int (fun _ _ => rfl)))
      (pss_cons (ps_for PassesOwn.never rfl (pi_list (pv 5)) (pg_name (i := 7) nd rfl (Or.inr rfl))
        (pss_cons (ps_set (i := 8) nd rfl (Or.inr rfl) (pe_op op_mul (pe_ix ix_list (pv 7) (pv 6) (fun _ _ => rfl)) (pc (ok_linv T) hr (pa_cons (pv 0) (pa_cons (pe_ix ix_list (pe_ix ix_list (pv 5) pe_int (fun _ _ => rfl)) (pv 6) (fun _ _ => rfl)) pa_nil)))))
        (pss_one (ps_if (pt_cmpR op_gt (pe_callB call_len_seq (by rfl) (f_len T) PySem.boot_len (pa_cons (pe_lc (own := [("_law_k", 12)]) (g := gName 12) (te := tVar 12) rfl nd (pi_range1 (by rfl) (f_range T) (pa_cons (pe_callB call_len_seq (by rfl) (f_len T) PySem.boot_len (pa_cons (pv 4) pa_nil)) pa_nil)) (blkOk_by (N := nCBC) (sc := defScope s__law_can_be_cut) (by decide +kernel)) (fun _ _ _ _ _ => pg_name (i := 12) nd rfl (Or.inl rfl)) (fun _ _ _ _ _ => by exact pts_one (pt_cmpR op_ne (pe_op op_mod (pe_callTy call_int1 (by rfl) (f_int T) boot_int (pa_cons (pe_op op_sub (pe_ix (r := rIxL K) ix_list (pv 7) (pv 12) (fun _ _ => rfl)) (pe_op op_mul (pv 8) (pe_ix (r := rIxL K) ix_list (pe_ix (r := rIxL K) ix_list (pv 5) pe_int (fun _ _ => rfl)) (pv 12) (fun _ _ => rfl)))) pa_nil)) (pv 0)) pe_int (nomark _))) (fun _ _ _ _ _ => by exact pv 12)) pa_nil)) pe_int (nomark _)) (pss_one (ps_ret pe_bl)) pss_nil))))
      (pss_one (ps_ret pe_bl))))))), ?_⟩
    -- the fronts
    refine ⟨d, _, hd, trivial, fun od => ?_⟩
    refine ⟨_, rfl, d, od, rfl, .inl ⟨kv l, upd_same, fun D hD => ?_⟩⟩
    have nD : D ≠ d := fun e => by
      rw [e, upd_same] at hD
      cases hD
    have hD0 : H D = none := by
      rw [upd_ne nD] at hD
      exact hD
    refine lc_it walk_keys (fun i H' => H' D = some (.lst (((l.take i).map fun p => fw s p.1).map V.str)) ∧ But d H H' ∧ H' d = some (.frz od (.dK (kv l)))) ⟨upd_same, (fun b o e n => by
        rw [upd_ne (ne_of_none e hD0), upd_ne n]
        exact e), (by rw [upd_ne nD.symm]; exact upd_same)⟩ (fun i H' _ hP => hP.2.2) ?_ ?_
    · rintro i x Ha Hb hi ⟨r1, r2, r3⟩ ⟨rfl, kk, vv, ee, rfl⟩
      obtain ⟨p, ep, rfl, rfl⟩ := kv_at ee
      have hpl := hl p (List.mem_of_getElem? ep)
      rw [kv_len] at hi
      refine ⟨rfl, ?_⟩
      refine ⟨_, rfl, _, rfl, _, rfl, p.1, rfl, by omega, _, r1, by rw [List.length_map, List.length_map, List.length_take]; omega, ?_, ?_, ?_⟩
      · rw [upd_same, List.take_add_one, ep, List.map_append, List.map_append]
        rfl
      · intro b o e n
        rw [upd_ne (ne_of_none e hD0)]
        exact r2 b o e n
      · rw [upd_ne nD.symm]
        exact r3
    rintro H1 ⟨r1, r2, r3⟩
    rw [kv_len, List.take_length] at r1
    refine ⟨r3, ?_⟩
    have s1 := unlockT hd r2
    have eD : (upd H1 d (.dK (kv l))) D = some (.lst ((l.map fun p => fw s p.1).map V.str)) := by
      rw [upd_ne nD]
      exact r1
    have hd1 := s1 _ _ hd
    generalize upd H1 d (.dK (kv l)) = G1 at s1 eD hd1 ⊢
    clear r1 r2 r3 hD hD0
    refine ⟨D, _, rfl, SqL.of eD, by rw [List.length_map]; omega, fun A0 c0 nA hc0 => ?_⟩
    rw [List.length_map] at hc0
    generalize hwA0 : TxtO _ A0 (fun j => decide (j ∈ l.map fun p => fw s p.1)) c0 = obA0
    have s2 := same_upd (o := obA0) nA
    have hd2 := s2 _ _ hd1
    have eA := upd_same (H := G1) (a := A0) (o := obA0)
    generalize upd G1 A0 obA0 = G2 at s2 hd2 eA ⊢
    refine ⟨A0, _, c0, rfl, eA.trans (congrArg some hwA0.symm), by omega, fun xs X0 _ _ hxs hxl nX => ?_⟩
    have hxs' : ∀ y, y ∈ xs ↔ y ∈ l.map fun p => fw s p.1 := fun y => (hxs y).trans ⟨fun z => of_decide_eq_true z, fun z => decide_eq_true z⟩
    have s3 := same_upd (o := .lst (xs.map V.str)) nX
    have eX := upd_same (H := G2) (a := X0) (o := HO.lst (xs.map V.str))
    have hd3 := s3 _ _ hd2
    generalize upd G2 X0 (.lst (xs.map V.str)) = G3 at s3 eX hd3 ⊢
    -- the ends
    refine ⟨d, _, hd3, trivial, fun od => ?_⟩
    refine ⟨_, rfl, d, od, rfl, .inl ⟨kv l, upd_same, fun D2 hD => ?_⟩⟩
    have nD2 : D2 ≠ d := fun e => by
      rw [e, upd_same] at hD
      cases hD
    have hD0 : G3 D2 = none := by
      rw [upd_ne nD2] at hD
      exact hD
    refine lc_it walk_keys (fun i H' => H' D2 = some (.lst (((l.take i).map fun p => bw s p.1).map V.str)) ∧ But d G3 H' ∧ H' d = some (.frz od (.dK (kv l)))) ⟨upd_same, (fun b o e n => by
        rw [upd_ne (ne_of_none e hD0), upd_ne n]
        exact e), (by rw [upd_ne nD2.symm]; exact upd_same)⟩ (fun i H' _ hP => hP.2.2) ?_ ?_
    · rintro i x Ha Hb hi ⟨r1, r2, r3⟩ ⟨rfl, kk, vv, ee, rfl⟩
      obtain ⟨p, ep, rfl, rfl⟩ := kv_at ee
      have hpl := hl p (List.mem_of_getElem? ep)
      rw [kv_len] at hi
      refine ⟨rfl, ?_⟩
      refine ⟨_, rfl, _, rfl, _, rfl, p.1, rfl, by omega, _, r1, by rw [List.length_map, List.length_map, List.length_take]; omega, ?_, ?_, ?_⟩
      · rw [upd_same, List.take_add_one, ep, List.map_append, List.map_append]
        rfl
      · intro b o e n
        rw [upd_ne (ne_of_none e hD0)]
        exact r2 b o e n
      · rw [upd_ne nD2.symm]
        exact r3
    rintro H4 ⟨r1, r2, r3⟩
    rw [kv_len, List.take_length] at r1
    refine ⟨r3, ?_⟩
    have s4 := unlockT hd3 r2
    have eD2 : (upd H4 d (.dK (kv l))) D2 = some (.lst ((l.map fun p => bw s p.1).map V.str)) := by
      rw [upd_ne nD2]
      exact r1
    have hd4 := s4 _ _ hd3
    have eX4 := s4 _ _ eX
    generalize upd H4 d (.dK (kv l)) = G4 at s4 eD2 hd4 eX4 ⊢
    clear r1 r2 r3 hD hD0
    refine ⟨D2, _, rfl, SqL.of eD2, by rw [List.length_map]; omega, fun A1 c1 nA1 hc1 => ?_⟩
    rw [List.length_map] at hc1
    generalize hwA1 : TxtO _ A1 (fun j => decide (j ∈ l.map fun p => bw s p.1)) c1 = obA1
    have s5 := same_upd (o := obA1) nA1
    have hd5 := s5 _ _ hd4
    have eX5 := s5 _ _ eX4
    have eA1 := upd_same (H := G4) (a := A1) (o := obA1)
    generalize upd G4 A1 obA1 = G5 at s5 hd5 eX5 eA1 ⊢
    refine ⟨A1, _, c1, rfl, eA1.trans (congrArg some hwA1.symm), by omega, fun ys Y0 _ _ hys hyl nY => ?_⟩
    have hys' : ∀ y, y ∈ ys ↔ y ∈ l.map fun p => bw s p.1 := fun y => (hys y).trans ⟨fun z => of_decide_eq_true z, fun z => decide_eq_true z⟩
    have s6 := same_upd (o := .lst (ys.map V.str)) nY
    have eY := upd_same (H := G5) (a := Y0) (o := HO.lst (ys.map V.str))
    have hd6 := s6 _ _ hd5
    have eX6 := s6 _ _ eX5
    have sAll := ((((s1.trans s2).trans s3).trans s4).trans s5).trans s6
    generalize upd G5 Y0 (.lst (ys.map V.str)) = G6 at sAll eY hd6 eX6 ⊢
    clear s1 s2 s3 s4 s5 s6
    have lenX : ∀ y ∈ xs, y.length ≤ 1000 := fun y hy => by
      obtain ⟨p, hp, e⟩ := List.mem_map.mp ((hxs' y).mp hy)
      rw [← e, fw_len (by rw [hl p hp]; exact hsn)]
      omega
    have lenY : ∀ y ∈ ys, y.length ≤ 1000 := fun y hy => by
      obtain ⟨p, hp, e⟩ := List.mem_map.mp ((hys' y).mp hy)
      rw [← e, bw_len (by rw [hl p hp]; exact hsn), hl p hp]
      omega
    have nb := fun x => num_small hck v x
    have hXl : xs.length ≤ 60 := by omega
    have hYl : ys.length ≤ 60 := by omega
    clear hxl hyl hxs hys
    -- the rows
    refine ⟨_, rfl, X0, rfl, ⟨_, SqL.of eX6⟩, fun D hD => ?_⟩
    have sD := same_upd (o := .lst []) hD
    refine lc_it (walk_list (xs := xs.map V.str)) (fun i H' => ∃ rs : List Addr, H' D = some (.lst (rs.map V.ref)) ∧ Paired (fun r f => r ≠ D ∧ H' r = some (.lst (rowV l ys f))) rs (xs.take i) ∧ Same G6 H') ⟨[], upd_same, Paired.nil, sD⟩ (fun i H' _ hP => SqL.of (hP.choose_spec.2.2 _ _ eX6)) ?_ ?_
    · rintro i x Ga Gb hi ⟨rs, r1, r2, r3⟩ ⟨rfl, ex⟩
      rw [List.getElem?_map] at ex
      cases ef : xs[i]? with
      | none => rw [ef] at ex; cases ex
      | some f =>
        rw [ef] at ex
        obtain rfl : V.str f = x := Option.some.inj ex
        have hf := List.mem_of_getElem? ef
        refine ⟨rfl, ?_⟩
        refine ⟨_, rfl, Y0, rfl, ⟨_, SqL.of (r3 _ _ eY)⟩, fun D2 hD2 => ?_⟩
        have nDD : D ≠ D2 := ne_of_none r1 hD2
        refine lc_it (walk_list (xs := ys.map V.str)) (fun j H' => H' D2 = some (.lst (rowV l (ys.take j) f)) ∧ Same Gb H') ⟨upd_same, same_upd hD2⟩ (fun j H' _ hP => SqL.of (hP.2 _ _ (r3 _ _ eY))) ?_ ?_
        · rintro j x Gc Gd hj ⟨t1, t2⟩ ⟨rfl, ex⟩
          rw [List.getElem?_map] at ex
          cases ee : ys[j]? with
          | none => rw [ee] at ex; cases ex
          | some e =>
            rw [ee] at ex
            obtain rfl : V.str e = x := Option.some.inj ex
            have he := List.mem_of_getElem? ee
            have b1 := lenX f hf
            have b2 := lenY e he
            refine ⟨rfl, ?_⟩
            refine ⟨_, rfl, d, rfl, .inl ⟨_, .inl (t2 _ _ (r3 _ _ hd6))⟩, _, rfl, _, rfl, _, _, rfl, rfl, by omega, _, DGet.k (k := Sum.inr (f ++ e)) (t2 _ _ (r3 _ _ hd6)), ?_⟩
            rw [num_eq]
            rw [List.length_map] at hj
            refine ⟨_, t1, by unfold rowV; rw [List.length_map, List.length_take]; omega, ?_, fun b o z => ?_⟩
            · rw [upd_same]
              unfold rowV
              rw [List.take_add_one, ee, List.map_append]
              rfl
            · rw [upd_ne (ne_of_none z hD2)]
              exact t2 _ _ z
        · rintro Gc ⟨t1, t2⟩
          rw [List.length_map, List.take_length] at t1
          have eDc := t2 _ _ r1
          rw [List.length_map] at hi
          have hrl := Paired.length r2
          rw [List.length_take] at hrl
          refine ⟨_, eDc, by rw [List.length_map]; omega, rs ++ [D2], ?_, ?_, fun b o z => ?_⟩
          · rw [upd_same, List.map_append]
            rfl
          · rw [List.take_add_one, ef]
            refine Paired.snoc (Paired.mapP r2 fun r f' z => ⟨z.1, ?_⟩) ⟨nDD.symm, ?_⟩
            · rw [upd_ne z.1]
              exact t2 _ _ z.2
            · rw [upd_ne nDD.symm]
              exact t1
          · rw [upd_ne (ne_of_none z hD)]
            exact t2 _ _ (r3 _ _ z)
    rintro G7 ⟨rs, r1, r2, r3⟩
    rw [List.length_map, List.take_length] at r2
    replace hd6 := r3 _ _ hd6
    replace eX6 := r3 _ _ eX6
    replace eY := r3 _ _ eY
    replace sAll := sAll.trans r3
    have hrl := Paired.length r2
    -- the first row
    obtain ⟨p0, hp0⟩ : ∃ p, p ∈ l := by
      cases l with
      | nil => exact absurd rfl hne
      | cons p r => exact ⟨p, List.mem_cons_self⟩
    obtain ⟨f0, xt, exs⟩ : ∃ f xt, xs = f :: xt := by
      have h0 : fw s p0.1 ∈ xs := (hxs' _).mpr (List.mem_map.mpr ⟨p0, hp0, rfl⟩)
      cases xs with
      | nil => cases h0
      | cons f xt => exact ⟨f, xt, rfl⟩
    obtain ⟨r0, rt, ers, er0⟩ : ∃ r0 rt, rs = r0 :: rt ∧ G7 r0 = some (.lst (rowV l ys f0)) := by
      rw [exs] at r2
      cases r2 with
      | cons h t => exact ⟨_, _, rfl, h.2⟩
    have hf0 : f0 ∈ xs := by rw [exs]; exact List.mem_cons_self
    have e00 : (rs.map V.ref)[0]? = some (V.ref r0) := by rw [ers]; rfl
    have hcol : ∀ (f : Str) (k : Nat) (e : Str), ys[k]? = some e → (rowV l ys f)[k]? = some (V.int (num l (f ++ e))) := fun f k e h => by
      unfold rowV
      rw [List.getElem?_map, h]
      rfl
    have hex : fl (fun k => decide (num l (f0 ++ ys.getD k "") ≠ 0)) ys.length ≠ [] := by
      obtain ⟨p, hp, e⟩ := List.mem_map.mp ((hxs' f0).mp hf0)
      obtain ⟨k, ek⟩ := List.getElem?_of_mem ((hys' (bw s p.1)).mpr (List.mem_map.mpr ⟨p, hp, rfl⟩))
      have hlt : k < ys.length := (List.getElem?_eq_some_iff.mp ek).1
      have : k ∈ fl (fun k => decide (num l (f0 ++ ys.getD k "") ≠ 0)) ys.length := fl_mem.mpr ⟨hlt, decide_eq_true (by
        rw [List.getD_eq_getElem?_getD, ek, ← e]
        show num l (fw s p.1 ++ bw s p.1) ≠ 0
        rw [fw_bw (by rw [hl p hp]; exact hsn)]
        have := num_pos v (List.mem_map.mpr ⟨p, hp, rfl⟩)
        omega)⟩
      intro z
      rw [z] at this
      cases this
    refine ⟨_, rfl, Y0, _, rfl, .inl (SqL.of eY), (ys.length : Int), by simp, by omega, by omega, fun D2 hD2 => ?_⟩
    refine lc_it walk_range (fun i H' => H' D2 = some (.lst ((fl (fun k => decide (num l (f0 ++ ys.getD k "") ≠ 0)) i).map fun k => V.int ((k : Nat) : Int))) ∧ Same G7 H') ⟨upd_same, same_upd hD2⟩ (fun _ _ _ _ => trivial) ?_ ?_
    · rintro i x Ga Gb hi ⟨t1, t2⟩ ⟨rfl, rfl⟩
      show gName 12 (V.int (0 + (i : Int))) _ _ _
      rw [Int.zero_add]
      have hi' : i < ys.length := by simpa using hi
      refine ⟨rfl, ?_⟩
      have ei : ys[i]? = some ys[i] := List.getElem?_eq_getElem hi'
      have eg : ys.getD i "" = ys[i] := by rw [List.getD_eq_getElem?_getD, ei]; rfl
      have hsucc := fl_succ (fun k => decide (num l (f0 ++ ys.getD k "") ≠ 0)) i
      rw [eg] at hsucc
      generalize ys[i] = e at ei hsucc
      refine ⟨_, rfl, D, _, 0, _, rfl, rfl, SqL.of (t2 _ _ r1), atI_nat (j := 0) e00, _, rfl, r0, _, i, _, rfl, rfl, SqL.of (t2 _ _ er0), atI_nat (j := i) (hcol f0 i e ei), rfl, _, rfl, ?_⟩
      show if (!decide (V.int (num l (f0 ++ e)) = V.int 0)) = true then _ else _
      by_cases hz : num l (f0 ++ e) = 0
      · rw [hz, decide_eq_true (rfl : V.int 0 = V.int 0)]
        rw [if_neg (by rw [hz]; decide)] at hsucc
        refine iteF ⟨?_, t2⟩
        rw [hsucc]
        exact t1
      · rw [decide_eq_false (fun z : V.int _ = V.int 0 => hz (by injection z))]
        rw [if_pos (by simpa using hz)] at hsucc
        refine iteT ?_
        have hlen := fl_len (fun k => decide (num l (f0 ++ ys.getD k "") ≠ 0)) i
        refine ⟨_, rfl, _, t1, by rw [List.length_map]; omega, ?_, fun b o z => ?_⟩
        · rw [upd_same, hsucc, List.map_append]
          rfl
        · rw [upd_ne (ne_of_none z hD2)]
          exact t2 _ _ z
    rintro G8 ⟨t1, t2⟩
    have e9 : ((ys.length : Int)).toNat = ys.length := rfl
    rw [e9] at t1
    obtain ⟨k0, kt, ek⟩ : ∃ k0 kt, fl (fun k => decide (num l (f0 ++ ys.getD k "") ≠ 0)) ys.length = k0 :: kt := by
      cases z : fl (fun k => decide (num l (f0 ++ ys.getD k "") ≠ 0)) ys.length with
      | nil => exact absurd z hex
      | cons a b => exact ⟨a, b, rfl⟩
    rw [ek] at t1
    obtain ⟨hk0, hk1⟩ := fl_mem.mp (show k0 ∈ fl (fun k => decide (num l (f0 ++ ys.getD k "") ≠ 0)) ys.length by rw [ek]; exact List.mem_cons_self)
    have hk1 := of_decide_eq_true hk1
    have ei : ys[k0]? = some ys[k0] := List.getElem?_eq_getElem hk0
    have eg : ys.getD k0 "" = ys[k0] := by rw [List.getD_eq_getElem?_getD, ei]; rfl
    rw [eg] at hk1
    generalize ys[k0] = e0 at ei hk1
    refine ⟨D2, _, 0, _, rfl, rfl, SqL.of t1, atI_nat (j := 0) rfl, ?_⟩
    have hnd : ∀ (x : Str), num l x % c = num l x := fun x => num_mod (by omega) v x
    have hk2 : num l (f0 ++ e0) % c ≠ 0 := by rw [hnd]; exact hk1
    have hk3 := nb (f0 ++ e0)
    replace hd6 := t2 _ _ hd6
    replace eX6 := t2 _ _ eX6
    replace eY := t2 _ _ eY
    replace sAll := sAll.trans t2
    replace r1 := t2 _ _ r1
    replace er0 := t2 _ _ er0
    replace r2 := Paired.mapP r2 fun r f z => (⟨z.1, t2 _ _ z.2⟩ : r ≠ D ∧ G8 r = some (.lst (rowV l ys f)))
    clear t1 t2 hD2 hex ek
    refine ⟨_, rfl, D, rfl, ⟨_, SqL.of r1⟩, ?_⟩
    refine for_it (walk_list (xs := rs.map V.ref)) (fun i σ H' => (∃ y7 y8, σ = [some (.int c), some (.ref d), some (.int (s : Nat)), some (.ref X0), some (.ref Y0), some (.ref D), some (.int ((k0 : Nat) : Int)), y7, y8, none, none, none, none]) ∧ Same G8 H' ∧ ∀ f ∈ xs.take i, ∃ t : Int, ∀ e ∈ ys, c ∣ num l (f ++ e) - t * num l (f0 ++ e))
      ⟨⟨_, _, rfl⟩, Same.refl _, fun f hf => by simp at hf⟩ (fun i σ H' _ hP => SqL.of (hP.2.1 _ _ r1)) ?_ ?_
    · rintro i x σ Ga Gb hi ⟨⟨y7, y8, rfl⟩, sG, hall⟩ ⟨rfl, ex⟩
      rw [List.length_map] at hi
      have hix : i < xs.length := by omega
      have ef : xs[i]? = some xs[i] := List.getElem?_eq_getElem hix
      generalize hfx : xs[i] = f at ef
      obtain ⟨r, h1, h2⟩ : ∃ r, rs[i]? = some r ∧ G8 r = some (.lst (rowV l ys f)) := by
        obtain ⟨r, h1, _, h2⟩ := paired_get r2 ef
        exact ⟨r, h1, h2⟩
      rw [List.getElem?_map, h1] at ex
      obtain rfl : V.ref r = x := Option.some.inj ex
      replace h2 := sG _ _ h2
      have gr1 := sG _ _ r1
      have ger0 := sG _ _ er0
      have geY := sG _ _ eY
      have nf0 := nb (f ++ e0)
      refine ⟨_, rfl, _, rfl, r, _, k0, _, rfl, rfl, SqL.of h2, atI_nat (hcol f k0 e0 ei), ?_⟩
      refine ⟨_, rfl, _, rfl, D, _, 0, _, rfl, rfl, SqL.of gr1, atI_nat (j := 0) e00, _, rfl, r0, _, k0, _, rfl, rfl, SqL.of ger0, atI_nat (hcol f0 k0 e0 ei), c, num l (f0 ++ e0), rfl, hck, hk2, by omega, by omega, fun G9 jv s9 hj hj1 hjc => ?_⟩
      replace h2 := s9 _ _ h2
      replace gr1 := s9 _ _ gr1
      replace ger0 := s9 _ _ ger0
      replace geY := s9 _ _ geY
      replace sG := sG.trans s9
      refine ⟨_, _, rfl, rfl, .inl ⟨by omega, by omega⟩, ?_⟩
      have hft : 0 ≤ num l (f ++ e0) * jv ∧ num l (f ++ e0) * jv ≤ 42 := by
        have h6 : num l (f ++ e0) * jv ≤ 6 * jv := Int.mul_le_mul_of_nonneg_right (by omega) (by omega)
        exact ⟨Int.mul_nonneg (by omega) (by omega), by omega⟩
      generalize hfac : num l (f ++ e0) * jv = fac at hft
      refine ⟨_, rfl, Y0, _, rfl, .inl (SqL.of geY), (ys.length : Int), by simp, by omega, by omega, fun D3 hD3 => ?_⟩
      refine lc_it walk_range (fun i H' => H' D3 = some (.lst ((fl (fun k => decide ((num l (f ++ ys.getD k "") - fac * num l (f0 ++ ys.getD k "")) % c ≠ 0)) i).map fun k => V.int ((k : Nat) : Int))) ∧ Same G9 H') ⟨upd_same, same_upd hD3⟩ (fun _ _ _ _ => trivial) ?_ ?_
      · rintro i2 x Gc Gd hi2 ⟨t1, t2⟩ ⟨rfl, rfl⟩
        show gName 12 (V.int (0 + (i2 : Int))) _ _ _
        rw [Int.zero_add]
        have hi' : i2 < ys.length := by simpa using hi2
        refine ⟨rfl, ?_⟩
        have ei2 : ys[i2]? = some ys[i2] := List.getElem?_eq_getElem hi'
        have eg : ys.getD i2 "" = ys[i2] := by rw [List.getD_eq_getElem?_getD, ei2]; rfl
        have hsucc := fl_succ (fun k => decide ((num l (f ++ ys.getD k "") - fac * num l (f0 ++ ys.getD k "")) % c ≠ 0)) i2
        rw [eg] at hsucc
        generalize ys[i2] = e at ei2 hsucc
        have n1 := nb (f ++ e)
        have n2 := nb (f0 ++ e)
        refine ⟨_, rfl, _, rfl, r, _, i2, _, rfl, rfl, SqL.of (t2 _ _ h2), atI_nat (hcol f i2 e ei2), _, rfl, _, rfl, D, _, 0, _, rfl, rfl, SqL.of (t2 _ _ gr1), atI_nat (j := 0) e00, _, rfl, r0, _, i2, _, rfl, rfl, SqL.of (t2 _ _ ger0), atI_nat (hcol f0 i2 e ei2), _, _, rfl, rfl, .inl ⟨by omega, by omega⟩, _, _, rfl, rfl, .inl ⟨_, rfl, _, rfl, _, _, rfl, rfl, by omega, rfl, _, rfl, ?_⟩⟩
        show if (!decide (V.int ((num l (f ++ e) - (num l (f ++ e0) * jv) * num l (f0 ++ e)) % c) = V.int 0)) = true then _ else _
        rw [hfac]
        by_cases hz : (num l (f ++ e) - fac * num l (f0 ++ e)) % c = 0
        · rw [hz, decide_eq_true (rfl : V.int 0 = V.int 0)]
          rw [if_neg (by rw [hz]; decide)] at hsucc
          refine iteF ⟨?_, t2⟩
          rw [hsucc]
          exact t1
        · rw [decide_eq_false (fun z : V.int _ = V.int 0 => hz (by injection z))]
          rw [if_pos (by simpa using hz)] at hsucc
          refine iteT ?_
          have hlen := fl_len (fun k => decide ((num l (f ++ ys.getD k "") - fac * num l (f0 ++ ys.getD k "")) % c ≠ 0)) i2
          refine ⟨_, rfl, _, t1, by rw [List.length_map]; omega, ?_, fun b o z => ?_⟩
          · rw [upd_same, hsucc, List.map_append]
            rfl
          · rw [upd_ne (ne_of_none z hD3)]
            exact t2 _ _ z
      rintro Gc ⟨t1, t2⟩
      rw [e9] at t1
      refine ⟨D3, _, rfl, .inl (SqL.of t1), _, _, rfl, rfl, _, rfl, ?_⟩
      rw [List.length_map]
      refine ite2 (fun hgt => ?_) (fun hgt => ?_)
      · exact q Gc false (sAll.trans (sG.trans t2)) fun z => by cases z
      · refine ⟨⟨_, _, rfl⟩, sG.trans t2, fun f' hf' => ?_⟩
        rcases (mem_snoc ef).mp hf' with hf' | rfl
        · exact hall f' hf'
        · refine ⟨fac, fun e he => ?_⟩
          obtain ⟨k, ek⟩ := List.getElem?_of_mem he
          have hlt : k < ys.length := (List.getElem?_eq_some_iff.mp ek).1
          have eg : ys.getD k "" = e := by rw [List.getD_eq_getElem?_getD, ek]; rfl
          refine Int.dvd_of_emod_eq_zero (Classical.byContradiction fun hz => hgt ?_)
          have hm : k ∈ fl (fun k => decide ((num l (f' ++ ys.getD k "") - fac * num l (f0 ++ ys.getD k "")) % c ≠ 0)) ys.length := fl_mem.mpr ⟨hlt, by rw [eg]; exact decide_eq_true hz⟩
          have := List.length_pos_of_mem hm
          exact decide_eq_true (by omega)
    · rintro σ Ga ⟨⟨y7, y8, rfl⟩, sG, hall⟩
      rw [List.length_map, hrl, List.take_length] at hall
      refine q Ga true (sAll.trans sG) fun _ => ?_
      rintro ⟨a, b, d', e', ha, hb, hd', he', hq⟩
      obtain ⟨ta, ga⟩ := hall a ((hxs' a).mpr ha)
      obtain ⟨tb, gb⟩ := hall b ((hxs' b).mpr hb)
      obtain ⟨q1, p1⟩ := ga d' ((hys' d').mpr hd')
      obtain ⟨q2, p2⟩ := gb e' ((hys' e').mpr he')
      obtain ⟨q3, p3⟩ := ga e' ((hys' e').mpr he')
      obtain ⟨q4, p4⟩ := gb d' ((hys' d').mpr hd')
      refine hq (Int.emod_eq_zero_of_dvd ?_)
      have w1 : num l (a ++ d') = ta * num l (f0 ++ d') + c * q1 := by omega
      have w2 : num l (b ++ e') = tb * num l (f0 ++ e') + c * q2 := by omega
      have w3 : num l (a ++ e') = ta * num l (f0 ++ e') + c * q3 := by omega
      have w4 : num l (b ++ d') = tb * num l (f0 ++ d') + c * q4 := by omega
      rw [w1, w2, w3, w4]
      generalize num l (f0 ++ d') = x1
      generalize num l (f0 ++ e') = x2
      refine ⟨ta * x1 * q2 + q1 * (tb * x2) + c * q1 * q2 - (ta * x2 * q4 + q3 * (tb * x1) + c * q3 * q4), ?_⟩
      grind
end
end Fp

set_option Elab.async false
set_option linter.all false
set_option maxRecDepth 100000
set_option maxHeartbeats 4000000
namespace Fp
open PySem PySem.Spec PyProof.Rows L2
theorem vt_lev {c : Int} {m k n : Nat} {l : Tb} (v : VT c m k l) (hl : Lev n l) : VT c n l.length l := ⟨v.nd, v.nu, fun p hp => ⟨(v.wd p hp).1, by rw [hl p hp]; exact Nat.le_refl _⟩, Nat.le_refl _⟩
theorem canon_len (l : Tb) : (canon l).length = l.length := by
  unfold canon
  rw [List.length_map, ordW_len]
theorem prd_len {c : Int} {m k m1 k1 m2 k2 s : Nat} {W A B : Tb} (hc : isCk c) (v : VT c m k W) (vA : VT c m1 k1 A) (vB : VT c m2 k2 B) (h : Lk c W (prs A B)) (hA : Lev s A) (nB : B ≠ []) : A.length ≤ W.length := by
  obtain ⟨hc2, hc7⟩ := ck_range hc
  have hpB := num_pos vB (hd_first nB).1
  have h1 : ((A.map (·.1)).map fun x => x ++ hdW B).Nodup := List.Pairwise.map _ (fun a b hne z => hne (str_cancel_r z)) (show (A.map (·.1)).Nodup from vA.nd)
  have := List.Nodup.length_le_of_subset h1 (l₂ := W.map (·.1)) fun x hx => by
    obtain ⟨a, ha, rfl⟩ := List.mem_map.mp hx
    have hpA := num_pos vA ha
    obtain ⟨p, hp, rfl⟩ := List.mem_map.mp ha
    rw [vt_key v, num_prd (by omega) v vA vB h hA (hA p hp)]
    exact fun z => not_dvd hpB.1 hpB.2 (Int.emod_eq_zero_of_dvd (ck_cancel hc (not_dvd hpA.1 hpA.2) (Int.dvd_of_emod_eq_zero z)))
  simpa using this
theorem Wy.inv {c : Int} {n : Nat} {l x : Tb} {us : List Tb} (w : Wy c n l (x :: us)) : ∃ (s k : Nat) (u : Tb) (i : Int), x = canon u ∧ 1 ≤ s ∧ s ≤ n ∧ NC c s l ∧ (∀ s', 1 ≤ s' → s' < s → ¬ NC c s' l) ∧ CutR c s n k l i u (bkT s (hdW l) l) ∧ Wy c (n - s) (bkT s (hdW l) l) us := by
  cases w with
  | cons h1 h2 nc mn cr r => exact ⟨_, _, _, _, rfl, h1, h2, nc, mn, cr, r⟩
theorem Wy.inv0 {c : Int} {n : Nat} {l : Tb} (w : Wy c n l []) : n = 0 := by
  cases w
  rfl
section
variable {c i : Int} {m k k' s n : Nat} {l u : Tb}
theorem part_prod (hc : isCk c) (v : VT c m k' l) (hl : Lev n l) (hne : l ≠ []) (hs : s ≤ n) (nc : NC c s l) (cr : CutR c s n k l i u (bkT s (hdW l) l)) : Lk c l (prs u (bkT s (hdW l) l)) :=
  (cr.prod hc v hl hne hs ((crs_nc hc v hl hne hs).mpr nc)).symm
theorem part_len (hc : isCk c) (v : VT c m k' l) (hl : Lev n l) (hne : l ≠ []) (hs : s ≤ n) (nc : NC c s l) (cr : CutR c s n k l i u (bkT s (hdW l) l)) : u.length ≤ l.length :=
  prd_len hc v cr.vu cr.vv (part_prod hc v hl hne hs nc cr) (cr.lev_u hc hl hs) (bk_ne v hl hne hs)
theorem part_min (hc : isCk c) (v : VT c m k' l) (hl : Lev n l) (hne : l ≠ []) (hs : s ≤ n) (nc : NC c s l) (cr : CutR c s n k l i u (bkT s (hdW l) l)) (mn : ∀ s', 1 ≤ s' → s' < s → ¬ NC c s' l) {s' : Nat} (h1 : 1 ≤ s') (h2 : s' < s) : CrsB c s' (canon u) := by
  have ru := cr.ne hc v hl hne hs
  refine Classical.not_not.mp fun z => mn s' h1 h2 ?_
  have z1 := (crs_nc hc (vt_canon cr.vu) (lev_canon (cr.lev_u hc hl hs)) (canon_nil ru.1) (by omega)).mp z
  exact (nc_prd hc v cr.vu cr.vv (part_prod hc v hl hne hs nc cr) (cr.lev_u hc hl hs) (bk_lev hl hs _) (bk_ne v hl hne hs) (by omega)).mpr ((nc_canon cr.vu).mp z1)
end
theorem Wy.lens {c : Int} (hc : isCk c) {n : Nat} {l : Tb} {us : List Tb} (w : Wy c n l us) : ∀ {m k : Nat}, VT c m k l → Lev n l → l ≠ [] → ∀ u ∈ us, u.length ≤ l.length := by
  induction w with
  | nil l => intro m k _ _ _ u hu; cases hu
  | @cons n s k0 l u i us h1 h2 nc mn cr r ih =>
    intro m k v hl hne x hx
    rcases List.mem_cons.mp hx with rfl | hx
    · rw [canon_len]
      exact part_len hc v hl hne h2 nc cr
    · exact Nat.le_trans (ih (vt_bk h2 v hl) (bk_lev hl h2 _) (bk_ne v hl hne h2) x hx) (bk_len _ _ _)
/-- what stands while a way is multiplied again -/
structure WI (c : Int) (n M : Nat) (l w r : Tb) (nw nr : Nat) : Prop where
  vw : VT c nw M w
  vr : VT c nr M r
  lw : Lev nw w
  lr : Lev nr r
  aw : w ≠ []
  ar : r ≠ []
  one : num w (hdW w) = 1
  eq : Lk c (prs w r) l
  sum : nw + nr = n
theorem WI.step {c i : Int} {n M nw nr s k m2 k2 mL kL : Nat} {l w r u W : Tb} (hc : isCk c) (z : WI c n M l w r nw nr) (vl : VT c mL kL l) (hM : l.length ≤ M) (hs : s ≤ nr) (nc : NC c s r) (cr : CutR c s nr k r i u (bkT s (hdW r) r)) (vW : VT c m2 k2 W) (lW : Lk c W (prs w (canon u))) : WI c n M l W (bkT s (hdW r) r) (nw + s) (nr - s) := by
  obtain ⟨hc2, hc7⟩ := ck_range hc
  have lu := lev_canon (cr.lev_u hc z.lr hs)
  have vu := vt_canon cr.vu
  have au := canon_nil (cr.ne hc z.vr z.lr z.ar hs).1
  have levW : Lev (nw + s) W := lev_lk (by omega) vW lW (lev_prs z.lw lu)
  have aW := prd_ne hc vW z.vw vu lW z.lw z.aw au
  have ar := bk_ne z.vr z.lr z.ar hs
  have hone : num (canon u) (hdW (canon u)) = 1 := by
    rw [hd_canon (cr.ne hc z.vr z.lr z.ar hs).1, canon_num cr.vu.nd, cr.hd hc z.vr z.lr z.ar hs]
    exact cr.one hc z.vr z.lr z.ar hs
  have heq : Lk c (prs W (bkT s (hdW r) r)) l := by
    refine (Lk.prs_l _ lW).trans ?_
    rw [prs_assoc]
    refine Lk.trans (Lk.prs_r w ?_) z.eq
    exact (Lk.prs_l _ (lk_canon cr.vu.nd)).trans (part_prod hc z.vr z.lr z.ar hs nc cr).symm
  refine ⟨?_, (vt_lev cr.vv (bk_lev z.lr hs _)).mono (Nat.le_refl _) (Nat.le_trans (bk_len _ _ _) z.vr.ln), levW, bk_lev z.lr hs _, aW, ar, ?_, heq, by have := z.sum; omega⟩
  · exact (vt_lev vW levW).mono (Nat.le_refl _) (Nat.le_trans (prd_len hc vl vW cr.vv heq.symm levW ar) hM)
  · rw [hd_prd hc vW z.vw vu lW z.lw lu z.aw au, num_prd (by omega) vW z.vw vu lW z.lw (hd_len z.aw z.lw), z.one, hone]
    exact Int.emod_eq_of_lt (by decide) (by omega)
theorem WI.fin {c j jP : Int} {n M nw mL kL mp kp mP kP : Nat} {l w r lp P : Tb} (hc : isCk c) (z : WI c n M l w r nw 0) (vl : VT c mL kL l) (hl : Lev n l) (vp : VT c mp kp lp) (np : lp ≠ []) (hj : Lk c l (scl j lp)) (vP : VT c mP kP P) (lP : Lk c P (scl jP lp)) (h1 : (jP * num lp (hdW lp)) % c = 1) : canon w = canon P := by
  obtain ⟨hc2, hc7⟩ := ck_range hc
  have er : hdW r = "" := len_zero (hd_len z.ar z.lr)
  have hp := num_pos z.vr (hd_first z.ar).1
  rw [er] at hp
  obtain ⟨g, q, hg⟩ := ck_unit hc (not_dvd hp.1 hp.2)
  have hn : nw = n := by have := z.sum; omega
  refine plain_uniq (t := g * j) hc vp z.vw vP np (lk_of (by omega) z.vw fun x => ?_) lP z.one h1
  rw [tot_scl, tot_num vp.nd]
  have hw := num_mod (by omega) z.vw x
  have hlx : num l x % c = (j * num lp x) % c := by rw [← tot_num vl.nd, hj x, tot_scl, tot_num vp.nd]
  obtain ⟨q1, p1⟩ := emod_dvd hlx
  by_cases hx : x.length = nw
  · have h2 := num_prd (by omega) vl z.vw z.vr z.eq.symm z.lw hx ""
    rw [str_nil_r] at h2
    obtain ⟨q2, p2⟩ := emod_dvd (show num l x % c = (num w x * num r "") % c by rw [h2, Int.emod_emod_of_dvd _ (Int.dvd_refl c)])
    rw [← hw]
    generalize num w x = X at *
    generalize num r "" = R at *
    generalize num lp x = Y at *
    refine Int.emod_eq_emod_iff_emod_sub_eq_zero.mpr (Int.emod_eq_zero_of_dvd ⟨g * q1 - g * q2 - X * q, ?_⟩)
    grind
  · have h3 := num_not (lev_not hl (x := x) (by omega))
    rw [h3] at p1
    rw [num_not (lev_not z.lw hx)]
    refine (Int.emod_eq_zero_of_dvd ⟨g * (-q1), ?_⟩).symm
    grind
end Fp

set_option Elab.async false
set_option linter.all false
set_option maxRecDepth 100000
set_option maxHeartbeats 4000000
namespace Fp
open PySem PySem.Spec PyProof.Rows L2
theorem vt_unit {c : Int} (hc : 2 ≤ c) (m : Nat) : VT c m 1 [("", 1)] := ⟨by show [(("" : Str))].Nodup; simp, fun q hq => by
    have : q = (("" : Str), (1 : Int)) := by simpa using hq
    subst this
    exact ⟨by decide, by show (1 : Int) < c; omega⟩, fun q hq => by
    have : q = (("" : Str), (1 : Int)) := by simpa using hq
    subst this
    exact ⟨by decide +kernel, Nat.zero_le _⟩, Nat.le_refl _⟩
section
variable {P : Program} {w : World} {K : PySem.W.Frag} {mg : Str → Option Value} {base : Heap}
def spIW (K : PySem.W.Frag) : Sp := fun vs H Q _ => ∃ (c j : Int) (d t : Addr) (n m k mL M : Nat) (lp l : Tb) (ps : List (Addr × Tb)), vs = [.int c, .ref d, .ref t] ∧ isCk c ∧ H d = some (.dK (kv lp)) ∧ VT c m k lp ∧ lp ≠ [] ∧ m ≤ 1000 ∧ k ≤ 1000 ∧ H t = some (.tup (ps.map fun p => V.ref p.1)) ∧ BagsAt K H c ps ∧ (∀ p ∈ ps, p.2.length ≤ 60) ∧ VT c mL M l ∧ Lev n l ∧ l ≠ [] ∧ n ≤ 900 ∧ M ≤ 800 ∧ ps.length ≤ 1000 ∧ Lk c l (scl j lp) ∧ Wy c n l (ps.map (·.2)) ∧ ∀ H', Same H H' → Q (.bl true) H'
abbrev nIW : List Str := ["_law_clock_here", "_law_parts", "_law_told", "_law_whole", "_law_one", "_law_bag", "_law_letters", "_law_word", "_law_k"]
theorem sc_iw : FnScope nIW ["_law_clock_here", "_law_parts", "_law_told"] (defScope s__law_is_way) := ⟨rfl, rfl, rfl, by decide +kernel, rfl, by decide +kernel, by decide +kernel⟩
theorem ok_iw (T : Top K mg) : Ok P w K mg base 4 "_law_is_way" ["_law_clock_here", "_law_parts", "_law_told"] (spIW K) := by
  obtain ⟨fd, F⟩ := fn__law_is_way T
  refine ⟨⟨fd, ?_, F.bindsN fun _ _ _ _ _ _ us hl => match us, hl with | [_, _, _], _ => rfl⟩, g__law_is_way T, F.kp⟩
  refine F.ok sc_iw (fun vs H Q E h => ?_) (fun cdv A outer s0 H vs Q E hr h => ?_)
  · obtain ⟨c, j, d, t, n, m, k, mL, M, lp, l, ps, rfl, _⟩ := h
    rfl
  · obtain ⟨c, j, d, t, n, m, k, mL, M, lp, l, ps, rfl, hck, hd, vp, np, hm, hk, ht, bs, hlen, vl, hl, hne, hn, hM, hps, hj, wy, q⟩ := h
    have nd := sc_iw.nd
    have hu := hu_of hr
    have hs : sizeLine = 16777216 := sizeLine_eq
    have hr1 : Room 1 _ := hr.mono (by decide)
    have hr2 : Room 2 _ := hr.mono (by decide)
    obtain ⟨hc2, hc7⟩ := ck_range hck
    have c0 : 0 < c := by omega
    refine ⟨_, PSs.nox (pss_cons (ps_if (pt_not (pt_val (pe_callB call_isi (by rfl) (f_isinstance T) (by decide +kernel) (pa_cons (pv 2) (pa_cons (pe_bltn (v := .ty "tuple") (by rfl) (f_tuple T) (by decide +kernel) rfl) pa_nil))))) (pss_one (ps_ret pe_bl)) pss_nil)
      (pss_cons (ps_set (i := 3) nd rfl (Or.inl rfl) (pe_disp (pps_cons pe_str pe_int pps_nil) (by rfl) (by rfl) (fun z => by cases z) (by decide)))
      (pss_cons (ps_for PassesOwn.never rfl (pi_tup (pv 2)) (pg_name (i := 4) nd rfl (Or.inl rfl))
        (pss_cons (ps_set (i := 5) nd rfl (Or.inr rfl) (pc (ok_ldict T) hr1 (pa_cons (pv 4) pa_nil)))
        (pss_cons (ps_set (i := 6) nd rfl (Or.inr rfl) (pc (ok_lsize T) hr1 (pa_cons (pv 5) pa_nil)))
        (pss_cons (ps_if (PW.pt (pw_or (pt_cmpR op_lt (pv 6) pe_int (nomark _))
          (pw_or (pt_cmpR op_gt (pe_callB call_len_seq (by rfl) (f_len T) PySem.boot_len (pa_cons (pe_lock (pe_lc (te := tVar 7) (own := [("_law_word", 7)]) (g := gName 7) rfl nd (pi_keys (pv 5)) (blkOk_by (N := nIW) (sc := defScope s__law_is_way) (by decide +kernel)) (fun _ _ _ _ _ => pg_name (i := 7) nd rfl (Or.inl rfl)) (fun _ _ _ _ _ => by exact pts_one (pt_cmpR op_ne (pe_callB call_len_str (by rfl) (f_len T) PySem.boot_len (pa_cons (pv 7) pa_nil)) (pv 6) (nomark _))) (fun _ _ _ _ _ => by exact pv 7))) pa_nil)) pe_int (nomark _))
          (pw_or1 (pt_cmpR op_ne (pe_dget hu (pv 5) (pc (ok_llead T) hr2 (pa_cons (pv 5) pa_nil)) (fun _ _ => rfl)) pe_int (nomark _)))))) (pss_one (ps_ret pe_bl)) pss_nil)
        (pss_cons (ps_if (pt_cmpR op_in_seq pe_bl (pe_lc (te := tCall spCBC [] E0 (tCons (tVar 0) (tCons (tVar 5) (tCons (tVar 8) tNil)))) (own := [("_law_k", 8)]) (g := gName 8) (tt := tYes) rfl nd (pi_range2 (by rfl) (f_range T) (pa_cons pe_int (pa_cons (pv 6) pa_nil))) (blkOk_by (N := nIW) (sc := defScope s__law_is_way) (by decide +kernel)) (fun _ _ _ _ _ => pg_name (i := 8) nd rfl (Or.inl rfl)) (fun _ _ _ _ _ => by exact pts_nil) (fun _ _ _ _ _ => by exact pc (ok_cbc T) hr2 (pa_cons (pv 0) (pa_cons (pv 5) (pa_cons (pv 8) pa_nil))))) (by rfl)) (pss_one (ps_ret pe_bl)) pss_nil)
        (pss_one (ps_set (i := 3) nd rfl (Or.inl rfl) (pc (ok_lprod T) hr2 (pa_cons (pv 0) (pa_cons (pv 3) (pa_cons (pv 5) pa_nil)))))))))))
      (pss_one (ps_ret (pe_cmpR (op_eq_dictA (Nat.lt_of_succ_lt hu)) (pv 3) (pc (ok_lplain T) hr (pa_cons (pv 0) (pa_cons (pv 1) pa_nil))) (nomark _))))))), ?_⟩
    -- a tuple
    refine ⟨_, rfl, .ref t, _, _, _, true, rfl, .ty "tuple", .base (.tup ht), kit_ty (by decide +kernel), true, rfl, iteF ?_⟩
    refine fun D0 hD0 => ⟨upd_same, kv [("", 1)], rfl, Nat.le_of_ble_eq_true rfl, ?_⟩
    rw [upd_upd, merge_kv (vt_unit hc2 0).nd]
    have s1 := same_upd (o := .dK (kv [("", 1)])) hD0
    have e1 := upd_same (H := H) (a := D0) (o := HO.dK (kv [("", 1)]))
    generalize upd H D0 (.dK (kv [("", 1)])) = H1 at s1 e1 ⊢
    have lM : l.length ≤ M := vl.ln
    have lpos : 0 < l.length := List.length_pos_iff.mpr hne
    have wi0 : WI c n M l [("", 1)] l 0 n := ⟨(vt_unit hc2 0).mono (Nat.le_refl _) (by omega), (vt_lev vl hl).mono (Nat.le_refl _) lM, (fun p hp => by
      obtain rfl : p = ((("" : Str), (1 : Int))) := by simpa using hp
      rfl), hl, (fun z => by cases z), hne, by decide +kernel, (by rw [prs_one_l]; exact Lk.refl c l), by omega⟩
    refine ⟨_, rfl, t, rfl, ⟨_, .inl (.inl (s1 _ _ ht))⟩, ?_⟩
    refine for_it (walk_tup (xs := ps.map fun p => V.ref p.1)) (fun i σ H' => (∃ dw y4 y5 y6 w r nw nr, σ = [some (.int c), some (.ref d), some (.ref t), some (.ref dw), y4, y5, y6, none, none] ∧ H' dw = some (.dK (kv w)) ∧ WI c n M l w r nw nr ∧ Wy c nr r ((ps.drop i).map (·.2))) ∧ Same H H')
      ⟨⟨_, _, _, _, _, _, _, _, rfl, e1, wi0, wy⟩, s1⟩ (fun i σ H' _ hP => .inl (.inl (hP.2 _ _ ht))) ?_ ?_
    · rintro i x σ Ga Gb hi ⟨⟨dw, y4, y5, y6, w, r, nw, nr, rfl, ew, wi, wyi⟩, sG⟩ ⟨rfl, ex⟩
      rw [List.length_map] at hi
      have ep : ps[i]? = some ps[i] := List.getElem?_eq_getElem hi
      have edr : ps.drop i = ps[i] :: ps.drop (i + 1) := (List.drop_eq_getElem_cons hi)
      generalize ps[i] = pp at ep edr
      obtain ⟨pa, pt⟩ := pp
      rw [List.getElem?_map, ep] at ex
      obtain rfl : V.ref pa = x := Option.some.inj ex
      rw [edr, List.map_cons] at wyi
      obtain ⟨s, kk, u, iu, epu, s1', s2', nc, mn, cr, wyr⟩ := wyi.inv
      have hmem := List.mem_of_getElem? ep
      have gb := (bs (pa, pt) hmem).same sG
      have hpl := hlen (pa, pt) hmem
      simp only at epu gb hpl wyr
      subst epu
      have ru := cr.ne hck wi.vr wi.lr wi.ar s2'
      have lu := lev_canon (cr.lev_u hck wi.lr s2')
      have vu := vt_canon cr.vu
      have vu60 : VT c s 60 (canon u) := ⟨vu.nd, vu.nu, vu.wd, hpl⟩
      have au := canon_nil ru.1
      have hone : num (canon u) (hdW (canon u)) = 1 := by
        rw [hd_canon ru.1, canon_num cr.vu.nd, cr.hd hck wi.vr wi.lr wi.ar s2']
        exact cr.one hck wi.vr wi.lr wi.ar s2'
      have hsn : s ≤ n := by have := wi.sum; omega
      have hnw : nw ≤ n := by have := wi.sum; omega
      refine ⟨_, rfl, pa, c, canon u, rfl, gb, vu.nd, fun G2 D s2 nD eD => ?_⟩
      have ndw : dw ≠ D := ne_of_none ew nD
      replace ew := s2 _ _ ew
      replace sG := sG.trans s2
      refine ⟨_, rfl, D, s, canon u, rfl, eD, au, lu, by omega, by omega, fun G3 s3 => ?_⟩
      replace ew := s3 _ _ ew
      replace eD := s3 _ _ eD
      replace sG := sG.trans s3
      refine ⟨_, rfl, _, _, rfl, rfl, _, rfl, ?_⟩
      rw [decide_eq_false (show ¬ (s : Int) < 1 by omega)]
      refine iteF ?_
      -- all of one length
      refine ⟨D, _, eD, trivial, fun od => ?_⟩
      refine ⟨_, rfl, D, od, rfl, .inl ⟨kv (canon u), upd_same, fun D2 hD2 => ?_⟩⟩
      have nD2 : D2 ≠ D := fun e => by
        rw [e, upd_same] at hD2
        cases hD2
      have hD20 : G3 D2 = none := by
        rw [upd_ne nD2] at hD2
        exact hD2
      refine lc_it walk_keys (fun i H' => H' D2 = some (.lst []) ∧ But D G3 H' ∧ H' D = some (.frz od (.dK (kv (canon u))))) ⟨upd_same, (fun b o e n => by
          rw [upd_ne (ne_of_none e hD20), upd_ne n]
          exact e), (by rw [upd_ne nD2.symm]; exact upd_same)⟩ (fun i H' _ hP => hP.2.2) ?_ ?_
      · rintro i x Gc Gd hi ⟨r1, r2, r3⟩ ⟨rfl, k9, v9, ee, rfl⟩
        obtain ⟨p, ep, rfl, rfl⟩ := kv_at ee
        have hpl := lu p (List.mem_of_getElem? ep)
        refine ⟨rfl, ?_⟩
        refine ⟨_, rfl, p.1, rfl, by omega, _, rfl, rfl, _, rfl, ?_⟩
        show if (!decide (V.int (p.1.length : Int) = V.int (s : Int))) = true then _ else _
        rw [decide_eq_true (show V.int (p.1.length : Int) = V.int (s : Int) by rw [hpl])]
        exact iteF ⟨r1, r2, r3⟩
      rintro Gc ⟨r1, r2, r3⟩
      refine ⟨r3, ?_⟩
      have s4 := unlockT eD r2
      have eD2 : (upd Gc D (.dK (kv (canon u)))) D2 = some (.lst []) := by
        rw [upd_ne nD2]
        exact r1
      replace ew := s4 _ _ ew
      replace eD := s4 _ _ eD
      replace sG := sG.trans s4
      generalize upd Gc D (.dK (kv (canon u))) = G4 at ew eD sG eD2 ⊢
      clear r1 r2 r3 hD2 hD20 s4
      refine ⟨D2, _, rfl, .inl (SqL.of eD2), _, _, rfl, rfl, _, rfl, ?_⟩
      refine ite2 (fun z => absurd z (by decide)) (fun _ => ?_)
      -- plain
      refine ⟨_, rfl, _, rfl, D, canon u, rfl, eD, au, fun p hp => by rw [lu p hp]; omega, fun G5 s5 => ?_⟩
      replace ew := s5 _ _ ew
      replace eD := s5 _ _ eD
      replace sG := sG.trans s5
      refine ⟨D, .int (num (canon u) (hdW (canon u))), rfl, .inl ⟨kv (canon u), Sum.inr (hdW (canon u)), .inl eD, rfl, by rw [valV_yes (has_iff.mpr (hd_first au).1)]⟩, rfl, ?_⟩
      rw [hone]
      refine ⟨_, rfl, ?_⟩
      rw [decide_eq_true (rfl : V.int 1 = V.int 1)]
      refine iteF ?_
      -- no cut within
      refine ⟨_, rfl, 1, (s : Int), rfl, ⟨by decide, by decide, by omega, by omega⟩, fun D3 hD3 => ?_⟩
      refine lc_it walk_range (fun i H' => H' D3 = some (.lst (List.replicate i (V.bl false))) ∧ Same G5 H') ⟨upd_same, same_upd hD3⟩ (fun _ _ _ _ => trivial) ?_ ?_
      · rintro i2 x Gc Gd hi2 ⟨t1, t2⟩ ⟨rfl, rfl⟩
        show gName 8 (V.int (1 + (i2 : Int))) _ _ _
        rw [show (1 : Int) + (i2 : Int) = ((1 + i2 : Nat) : Int) by omega]
        have hi' : 1 + i2 < s := by omega
        refine ⟨rfl, ?_⟩
        refine ⟨_, rfl, _, rfl, _, rfl, c, D, 1 + i2, s, s, 60, canon u, rfl, hck, t2 _ _ eD, vu60, au, lu, by omega, by omega, by decide, fun Ge b se hb => ?_⟩
        have hbf : b = false := Bool.eq_false_iff.mpr fun z => hb z (part_min hck wi.vr wi.lr wi.ar s2' nc cr mn (by omega) hi')
        subst hbf
        refine ⟨_, se _ _ t1, by rw [List.length_replicate]; omega, ?_, fun b o z => ?_⟩
        · rw [upd_same, List.replicate_succ']
        · rw [upd_ne (ne_of_none z hD3)]
          exact se _ _ (t2 _ _ z)
      rintro G6 ⟨t1, t2⟩
      replace ew := t2 _ _ ew
      replace eD := t2 _ _ eD
      replace sG := sG.trans t2
      refine ⟨D3, _, rfl, .inl (SqL.of t1), rfl, by simp [flatV], ?_⟩
      have hin : inV (V.bl true) (List.replicate ((s : Int) - 1).toNat (V.bl false)) = false := by
        unfold inV
        rw [List.any_eq_false]
        intro y hy
        rw [(List.mem_replicate.mp hy).2]
        decide
      refine ⟨false, congrArg V.bl hin, iteF ?_⟩
      refine ⟨_, rfl, _, rfl, _, rfl, c, dw, D, nw, s, M, 60, w, canon u, rfl, hck, ndw, ew, eD, wi.vw, vu60, by omega, by omega, by omega, by decide, fun G7 D4 W' s7 nD4 eD4 vW lW => ?_⟩
      exact ⟨⟨D4, _, _, _, W', _, _, _, rfl, eD4, wi.step hck vl lM s2' nc cr vW lW, wyr⟩, sG.trans s7⟩
    · rintro σ Ga ⟨⟨dw, y4, y5, y6, w, r, nw, nr, rfl, ew, wi, wyi⟩, sG⟩
      rw [List.length_map, List.drop_length, List.map_nil] at wyi
      obtain rfl := wyi.inv0
      refine ⟨_, rfl, _, rfl, _, rfl, c, d, m, k, lp, rfl, hck, sG _ _ hd, vp, np, hm, hk, fun G8 e tt j' s8 ne8 et vt lt hj' _ _ => ?_⟩
      have ec := wi.fin hck vl hl vp np hj vt lt hj'
      have hnum : ∀ x, num w x = num tt x := fun x => by rw [← canon_num wi.vw.nd, ← canon_num vt.nd, ec]
      refine ⟨dw, e, kv w, kv tt, rfl, rfl, s8 _ _ ew, et, by rw [kv_len, kv_len, ← canon_len w, ec, canon_len], fun p hp => ?_, q _ (sG.trans s8)⟩
      obtain ⟨p, hp', rfl⟩ := List.mem_map.mp hp
      obtain ⟨i, ei⟩ := List.getElem?_of_mem hp'
      have h1 := num_of wi.vw.nd ei
      have h2 : has tt p.1 = true := has_iff.mpr ((vt_key vt _).mpr (by
        rw [← hnum, h1]
        have := (wi.vw.nu p hp').1
        omega))
      refine ⟨?_, rfl⟩
      show valV (kv tt) (Sum.inr p.1) = some (V.int p.2)
      rw [valV_yes h2, ← hnum, h1]
end
end Fp

set_option Elab.async false
set_option linter.all false
set_option maxRecDepth 100000
set_option maxHeartbeats 4000000
namespace Fp
open PySem PySem.Spec PyProof.Rows L2
theorem unit_mul {c a b : Int} (hc : isCk c) (ha : a % c ≠ 0) (hb : b % c ≠ 0) : (a * b) % c ≠ 0 := fun z => hb (Int.emod_eq_zero_of_dvd (ck_cancel hc ha (Int.dvd_of_emod_eq_zero z)))
theorem unit_r {c a b : Int} (h : (a * b) % c = 1) : b % c ≠ 0 := fun z => by
  rw [Int.mul_emod, z, Int.mul_zero, Int.zero_emod] at h
  cases h
/-- l' is a multiple of l -/
def Pl (c : Int) (l l' : Tb) : Prop := ∃ t, t % c ≠ 0 ∧ Pr c t l l'
theorem Pl.symm {c : Int} (hc : isCk c) {l l' : Tb} (h : Pl c l l') : Pl c l' l := by
  obtain ⟨t, ht, h⟩ := h
  obtain ⟨m, q, e⟩ := ck_unit hc ht
  have hm : m % c ≠ 0 := fun z => by
    obtain ⟨r, hr⟩ := Int.dvd_of_emod_eq_zero z
    have hc2 := ck_range hc
    have h1 : c ∣ 1 := ⟨t * r - q, by rw [hr] at e; grind⟩
    have := Int.le_of_dvd (by decide) h1
    omega
  refine ⟨m, hm, fun x => ?_⟩
  obtain ⟨q1, e1⟩ := emod_dvd (h x)
  rw [e1]
  generalize num l x = X
  refine Int.emod_eq_emod_iff_emod_sub_eq_zero.mpr (Int.emod_eq_zero_of_dvd ⟨-(X * q) - m * q1, ?_⟩)
  grind
theorem Pl.trans {c : Int} (hc : isCk c) {l l' l'' : Tb} (h : Pl c l l') (g : Pl c l' l'') : Pl c l l'' := by
  obtain ⟨t, ht, h⟩ := h
  obtain ⟨r, hr, g⟩ := g
  refine ⟨r * t, unit_mul hc hr ht, fun x => ?_⟩
  rw [g x]
  obtain ⟨q1, e1⟩ := emod_dvd (h x)
  rw [e1]
  refine Int.emod_eq_emod_iff_emod_sub_eq_zero.mpr (Int.emod_eq_zero_of_dvd ⟨r * q1, ?_⟩)
  grind
theorem Pl.of_scl {c j : Int} {m k m' k' : Nat} {l l' : Tb} (v : VT c m k l) (v' : VT c m' k' l') (hj : j % c ≠ 0) (h : Lk c l' (scl j l)) : Pl c l l' := ⟨j, hj, fun x => by rw [← tot_num v'.nd, h x, tot_scl, tot_num v.nd]⟩
theorem Pl.scl {c : Int} {m k m' k' : Nat} {l l' : Tb} (v : VT c m k l) (v' : VT c m' k' l') (h : Pl c l l') : ∃ j, Lk c l' (Fp.scl j l) := by
  obtain ⟨t, _, h⟩ := h
  exact ⟨t, fun x => by rw [tot_num v'.nd, tot_scl, tot_num v.nd, h x]⟩
theorem Pl.lev {c : Int} (hc : isCk c) {m k m' k' n : Nat} {l l' : Tb} (v : VT c m k l) (v' : VT c m' k' l') (hl : Lev n l) (h : Pl c l l') : Lev n l' := fun p hp => by
  obtain ⟨t, ht, h⟩ := h
  obtain ⟨q, hq, e⟩ := List.mem_map.mp ((pr_keys hc ht v v' h p.1).mpr (List.mem_map.mpr ⟨p, hp, rfl⟩))
  rw [← e]
  exact hl q hq
theorem Pl.ne {c : Int} (hc : isCk c) {m k m' k' : Nat} {l l' : Tb} (v : VT c m k l) (v' : VT c m' k' l') (hl : l ≠ []) (h : Pl c l l') : l' ≠ [] := fun z => by
  obtain ⟨t, ht, h⟩ := h
  have := (pr_keys hc ht v v' h _).mp (hd_first hl).1
  rw [z] at this
  cases this
theorem Pl.prd {c : Int} (hc : isCk c) {s m k m' k' mA kA mA' kA' mB kB mB' kB' : Nat} {A A' B B' W W' : Tb} (vA : VT c mA kA A) (vA' : VT c mA' kA' A') (vB : VT c mB kB B) (vB' : VT c mB' kB' B') (v : VT c m k W) (v' : VT c m' k' W') (lA : Lev s A) (hA : Pl c A A') (hB : Pl c B B') (h : Lk c W (prs A B)) (h' : Lk c W' (prs A' B')) : Pl c W W' := by
  have lA' := hA.lev hc vA vA' lA
  obtain ⟨t, ht, hA⟩ := hA
  obtain ⟨r, hr, hB⟩ := hB
  refine ⟨t * r, unit_mul hc ht hr, fun x => ?_⟩
  have e1 := h x
  have e2 := h' x
  rw [tot_num v.nd, tot_prs x lA] at e1
  rw [tot_num v'.nd, tot_prs x lA'] at e2
  by_cases hx : s ≤ x.length
  · rw [if_pos hx, tot_num vA.nd, tot_num vB.nd] at e1
    rw [if_pos hx, tot_num vA'.nd, tot_num vB'.nd] at e2
    rw [e2]
    obtain ⟨q1, p1⟩ := emod_dvd (hA (fw s x))
    obtain ⟨q2, p2⟩ := emod_dvd (hB (bw s x))
    obtain ⟨q3, p3⟩ := emod_dvd e1
    rw [p1, p2, p3]
    generalize num A (fw s x) = X
    generalize num B (bw s x) = Y
    refine Int.emod_eq_emod_iff_emod_sub_eq_zero.mpr (Int.emod_eq_zero_of_dvd ⟨t * X * q2 + q1 * (r * Y) + c * q1 * q2 - t * r * q3, ?_⟩)
    grind
  · rw [if_neg hx] at e1 e2
    rw [e2]
    obtain ⟨q3, p3⟩ := emod_dvd e1
    rw [p3]
    refine (Int.emod_eq_emod_iff_emod_sub_eq_zero.mpr (Int.emod_eq_zero_of_dvd ⟨-(t * r * q3), ?_⟩))
    grind
theorem min_ex {P : Nat → Prop} : ∀ n, P n → ∃ m, m ≤ n ∧ P m ∧ ∀ k, k < m → ¬ P k := by
  intro n
  induction n using Nat.strongRecOn with
  | ind n ih =>
    intro h
    by_cases z : ∃ k, k < n ∧ P k
    · obtain ⟨k, hk, hp⟩ := z
      obtain ⟨m, h1, h2, h3⟩ := ih k hk hp
      exact ⟨m, by omega, h2, h3⟩
    · exact ⟨n, Nat.le_refl n, h, fun k hk hp => z ⟨k, hk, hp⟩⟩
theorem Wy.ex {c : Int} (hc : isCk c) : ∀ (n : Nat) {l : Tb} {m k : Nat}, VT c m k l → Lev n l → l ≠ [] → ∃ us, Wy c n l us := by
  intro n
  induction n using Nat.strongRecOn with
  | ind n ih =>
    intro l m k v hl hne
    have hc2 := ck_range hc
    rcases Nat.eq_zero_or_pos n with z | z
    · subst z
      exact ⟨[], Wy.nil l⟩
    · obtain ⟨s, h1, ⟨h2, h3⟩, h4⟩ := min_ex (P := fun s => 1 ≤ s ∧ NC c s l) n ⟨z, nc_full hc v hl hne⟩
      have hp := num_pos v (hd_first hne).1
      obtain ⟨i0, q, e⟩ := ck_unit hc (not_dvd hp.1 hp.2)
      have hi : (num l (hdW l) * (i0 % c)) % c = 1 := by
        rw [Int.mul_emod, Int.emod_emod_of_dvd _ (Int.dvd_refl c), ← Int.mul_emod, show num l (hdW l) * i0 = 1 + c * q by omega, Int.add_mul_emod_self_left]
        exact Int.emod_eq_of_lt (by decide) (by omega)
      have i1 : 1 ≤ i0 % c := by
        have h0 := Int.emod_nonneg i0 (show c ≠ 0 by omega)
        have : i0 % c ≠ 0 := fun y => by
          rw [y, Int.mul_zero, Int.zero_emod] at hi
          cases hi
        omega
      have ic := Int.emod_lt_of_pos i0 (show 0 < c by omega)
      obtain ⟨us, wy⟩ := ih (n - s) (by omega) (vt_bk (h := hdW l) h1 v hl) (bk_lev hl h1 _) (bk_ne v hl hne h1)
      exact ⟨_, Wy.cons h2 h1 h3 (fun s' g1 g2 g3 => h4 s' g2 ⟨g1, g3⟩) (cutR_tab hc v hl hne h1 hi i1 ic) wy⟩
/-- the way of a bag, as the law may know it -/
def WyOf (c : Int) (n m k : Nat) (l : Tb) (us : List Tb) : Prop := ∃ lp, VT c m k lp ∧ Pl c l lp ∧ Wy c n lp us
theorem WyOf.uniq {c : Int} (hc : isCk c) {n m k m' k' mL kL mL' kL' : Nat} {l l' : Tb} {us us' : List Tb} (v : VT c mL kL l) (v' : VT c mL' kL' l') (hl : Lev n l) (hne : l ≠ []) (h : Pl c l l') (w : WyOf c n m k l us) (w' : WyOf c n m' k' l' us') : us = us' := by
  obtain ⟨lp, vp, hp, wy⟩ := w
  obtain ⟨lp', vp', hp', wy'⟩ := w'
  have h1 : Pl c lp lp' := Pl.trans hc (Pl.trans hc (hp.symm hc) h) hp'
  have z1 := hp.lev hc v vp hl
  have z2 := hp.ne hc v vp hne
  have z3 := h1.lev hc vp vp' z1
  obtain ⟨t, ht, h1⟩ := h1
  exact Wy.scale hc ht wy vp vp' z1 z3 z2 h1 wy'
theorem WyOf.prd {c : Int} (hc : isCk c) {p q mA kA mB kB mA' kA' mB' kB' mW kW mW' kW' : Nat} {A B W : Tb} {us vs ws : List Tb} (vA : VT c mA kA A) (vB : VT c mB kB B) (vW : VT c mW kW W) (lA : Lev p A) (lB : Lev q B) (aA : A ≠ []) (aB : B ≠ []) (h : Lk c W (prs A B)) (wA : WyOf c p mA' kA' A us) (wB : WyOf c q mB' kB' B vs) (wW : WyOf c (p + q) mW' kW' W ws) : ws = us ++ vs := by
  obtain ⟨hc2, hc7⟩ := ck_range hc
  obtain ⟨A', vA', hA, yA⟩ := wA
  obtain ⟨B', vB', hB, yB⟩ := wB
  obtain ⟨W', vW', hW, yW⟩ := wW
  obtain ⟨v0, h0⟩ := vt_mul (c := c) (by omega) vA' vB'
  have lA' := hA.lev hc vA vA' lA
  have lB' := hB.lev hc vB vB' lB
  have aA' := hA.ne hc vA vA' aA
  have aB' := hB.ne hc vB vB' aB
  have l0 : Lev (p + q) (tidyM c (multT A' B')) := lev_lk (by omega) v0 h0 (lev_prs lA' lB')
  have a0 := prd_ne hc v0 vA' vB' h0 lA' aA' aB'
  obtain ⟨ws0, y0⟩ := Wy.ex hc (p + q) v0 l0 a0
  have e0 := Wy.prd hc yA rfl v0 vA' vB' h0 lA' lB' aA' aB' yB y0
  have h2 : Pl c (tidyM c (multT A' B')) W' := Pl.trans hc ((Pl.prd hc vA vA' vB vB' vW v0 lA hA hB h h0).symm hc) hW
  have lW' := h2.lev hc v0 vW' l0
  obtain ⟨t, ht, h2⟩ := h2
  rw [← e0]
  exact (Wy.scale hc ht y0 v0 vW' l0 lW' a0 h2 yW).symm
theorem WyOf.lens {c : Int} (hc : isCk c) {n m k mL kL : Nat} {l : Tb} {us : List Tb} (v : VT c mL kL l) (hl : Lev n l) (hne : l ≠ []) (w : WyOf c n m k l us) : ∀ u ∈ us, u.length ≤ k := fun u hu => by
  obtain ⟨lp, vp, hp, wy⟩ := w
  exact Nat.le_trans (wy.lens hc vp (hp.lev hc v vp hl) (hp.ne hc v vp hne) u hu) vp.ln
end Fp

set_option Elab.async false
set_option linter.all false
set_option maxRecDepth 100000
set_option maxHeartbeats 8000000
namespace L2
open PySem PySem.Spec PyProof.Rows HT
section
variable {X : Cx}
theorem PS.weak {e : Stmt} {t t' : TS} (h : PS X e t) (w : ∀ D σ H, t' D σ H → t D σ H) : PS X e t' := ⟨fun pins s σ H D I hw => h.run pins s σ H D I (w D σ H hw)⟩
/-- t + u, t[lo:hi] of tuples that stand in H, whatever is new -/
def rCatW : R2 := fun x y H Q => ∃ a b xs ys, x = .ref a ∧ y = .ref b ∧ H a = some (.tup xs) ∧ H b = some (.tup ys) ∧ xs.length + ys.length ≤ sizeLine ∧ ∀ p H', (∀ b o, H b = some o → H' b = some o) → H' p = some (.tup (xs ++ ys)) → Q (.ref p) H'
theorem op_catW : OpR X (binaryOp .Add) rCatW := by
  intro pins s σ H x y v u Q I rx ry h
  obtain ⟨a, b, xs, ys, rfl, rfl, ha, hb, hz, q⟩ := h
  refine op_catA pins s σ H _ _ v u Q I rx ry ⟨a, b, xs, ys, rfl, rfl, .inl (.inl ha), .inl (.inl hb), hz, fun e => ?_, fun _ e => ?_, fun _ _ p hp => ?_⟩
  · subst e
    exact q b H (fun _ _ e => e) hb
  · subst e
    exact q a H (fun _ _ e => e) (by rw [List.append_nil]; exact ha)
  · refine q p _ (fun b o e => ?_) upd_same
    rw [upd_ne (ne_of_none e hp)]
    exact e
end
end L2
namespace Fp
open PySem PySem.Spec PyProof.Rows L2
theorem Wy.cnt {c : Int} {n : Nat} {l : Tb} {us : List Tb} (w : Wy c n l us) : us.length ≤ n := by
  induction w with
  | nil => exact Nat.le_refl _
  | cons h1 h2 nc mn cr r ih =>
    rw [List.length_cons]
    omega
theorem Wy.zero {c : Int} {l : Tb} {us : List Tb} (w : Wy c 0 l us) : us = [] := List.eq_nil_of_length_eq_zero (by have := w.cnt; omega)
/-- a drawn table: where, letters, words -/
abbrev Rt : Type := Addr × Nat × Nat × Tb
structure Rw (c : Int) (r : Rt) : Prop where
  v : VT c r.2.1 r.2.2.1 r.2.2.2
  a : r.2.2.2 ≠ []
  b : Lev r.2.1 r.2.2.2
  n5 : r.2.1 ≤ 5
  k9 : r.2.2.1 ≤ 9
def RowsAt (H : Hp) (rs : List Rt) : Prop := ∀ r ∈ rs, H r.1 = some (.dK (kv r.2.2.2))
theorem RowsAt.same {H H' : Hp} {rs : List Rt} (h : RowsAt H rs) (s : Same H H') : RowsAt H' rs := fun r hr => s _ _ (h r hr)
theorem RowsAt.off {H H' : Hp} {rs : List Rt} {x : Addr} (h : RowsAt H rs) (k : But x H H') (hx : ∃ xs, H x = some (.lst xs)) : RowsAt H' rs := fun r hr => k _ _ (h r hr) (ne_of (h r hr) hx.choose_spec (by intro y; cases y))
def TW (K : PySem.W.Frag) (H : Hp) (c : Int) (t : Addr) (ps : List (Addr × Tb)) (n k : Nat) (l : Tb) : Prop := H t = some (.tup (ps.map fun p => V.ref p.1)) ∧ BagsAt K H c ps ∧ WyOf c n n k l (ps.map (·.2)) ∧ ps.length ≤ 100
theorem TW.same {K : PySem.W.Frag} {H H' : Hp} {c : Int} {t : Addr} {ps : List (Addr × Tb)} {n k : Nat} {l : Tb} (h : TW K H c t ps n k l) (s : Same H H') : TW K H' c t ps n k l := ⟨s _ _ h.1, h.2.1.same s, h.2.2.1, h.2.2.2⟩
theorem TW.off {K : PySem.W.Frag} {H H' : Hp} {c : Int} {t : Addr} {ps : List (Addr × Tb)} {n k : Nat} {l : Tb} {x : Addr} (h : TW K H c t ps n k l) (s : But x H H') (hx : ∃ xs, H x = some (.lst xs)) : TW K H' c t ps n k l :=
  ⟨s _ _ h.1 (ne_of h.1 hx.choose_spec (by intro y; cases y)), fun p hp => (h.2.1 p hp).but s hx, h.2.2.1, h.2.2.2⟩
def ToldAt (K : PySem.W.Frag) (H : Hp) (c : Int) (rs : List Rt) (ts : List Addr) : Prop := ∀ (j : Nat) t, ts[j]? = some t → ∃ r ps, rs[j]? = some r ∧ TW K H c t ps r.2.1 r.2.2.1 r.2.2.2
theorem ToldAt.same {K : PySem.W.Frag} {H H' : Hp} {c : Int} {rs : List Rt} {ts : List Addr} (h : ToldAt K H c rs ts) (s : Same H H') : ToldAt K H' c rs ts := fun j t e => by
  obtain ⟨r, ps, h1, h2⟩ := h j t e
  exact ⟨r, ps, h1, h2.same s⟩
theorem ToldAt.off {K : PySem.W.Frag} {H H' : Hp} {c : Int} {rs : List Rt} {ts : List Addr} {x : Addr} (h : ToldAt K H c rs ts) (s : But x H H') (hx : ∃ xs, H x = some (.lst xs)) : ToldAt K H' c rs ts := fun j t e => by
  obtain ⟨r, ps, h1, h2⟩ := h j t e
  exact ⟨r, ps, h1, h2.off s hx⟩
theorem rd_neW {K : PySem.W.Frag} {H : Hp} {t t' : Addr} {c : Int} {ps qs : List (Addr × Tb)} {Q : VK} (e : H t = some (.tup (ps.map fun p => V.ref p.1))) (e' : H t' = some (.tup (qs.map fun p => V.ref p.1))) (h1 : BagsAt K H c ps) (h2 : BagsAt K H c qs) (he : ps.map (·.2) = qs.map (·.2)) (q : ∀ H', Same H H' → Q (.bl false) H') : rNeT K (.ref t) (.ref t') H Q := by
  have ins : ∀ {x y : Addr} {c : Int} {L : Tb}, BagAt K H x c L → BagAt K H y c L → DIns (He.ga K "Bag") (Rb K) (.ref x) (.ref y) H := fun {x y c L} hx hy => by
    obtain ⟨dx, _, z1, _⟩ := id hx
    obtain ⟨dy, _, z2, _⟩ := id hy
    exact ⟨x, y, dx, dy, _, _, rfl, rfl, z1, z2, c, L, hx, hy⟩
  have hlen : ps.length = qs.length := by
    have := congrArg List.length he
    simpa using this
  refine ⟨⟨t, t', _, _, rfl, rfl, .inl (.inl e), .inl (.inl e'), by rw [List.length_map, List.length_map, hlen], fun i x y hx hy => ?_⟩, q⟩
  rw [List.getElem?_map] at hx hy
  cases ex : ps[i]? with
  | none => rw [ex] at hx; cases hx
  | some p =>
    cases ey : qs[i]? with
    | none => rw [ey] at hy; cases hy
    | some p' =>
      rw [ex] at hx
      rw [ey] at hy
      obtain rfl : V.ref p.1 = x := Option.some.inj hx
      obtain rfl : V.ref p'.1 = y := Option.some.inj hy
      have h3 : p.2 = p'.2 := by
        have := congrArg (fun z => z[i]?) he
        simp only [List.getElem?_map, ex, ey] at this
        exact Option.some.inj this
      have g1 := h1 p (List.mem_of_getElem? ex)
      have g2 := h2 p' (List.mem_of_getElem? ey)
      rw [← h3] at g2
      exact ins g1 g2
/-- what level_way's answer tells -/
theorem tw_of {K : PySem.W.Frag} {H' : Hp} {c j : Int} {t : Addr} {ps : List (Addr × Tb)} {n k : Nat} {l lp : Tb} (v : VT c n k l) (hn : n ≤ 100) (et : H' t = some (.tup (ps.map fun p => V.ref p.1))) (bs : BagsAt K H' c ps) (vp : VT c n k lp) (lk : Lk c lp (scl j l)) (hj : (num l (hdW l) * j) % c = 1) (wy : Wy c n lp (ps.map (·.2))) : TW K H' c t ps n k l :=
  ⟨et, bs, ⟨lp, vp, Pl.of_scl v vp (unit_r hj) lk, wy⟩, by have := wy.cnt; rw [List.length_map] at this; omega⟩
theorem vt_one {c v : Int} (h1 : 1 ≤ v) (h2 : v < c) : VT c 0 1 [("", v)] := ⟨by show [(("" : Str))].Nodup; simp, fun q hq => by
  obtain rfl : q = ((("" : Str)), v) := by simpa using hq
  exact ⟨h1, h2⟩, fun q hq => by
  obtain rfl : q = ((("" : Str)), v) := by simpa using hq
  exact ⟨(show xyz "" by decide +kernel), Nat.zero_le _⟩, Nat.le_refl 1⟩
theorem BagAt.butD {K : PySem.W.Frag} {a : Addr} {H H' : Hp} {b : Addr} {c : Int} {L : Tb} (h : BagAt K H b c L) (k : But a H H') (ha : ∃ kvs, H a = some (.dK kvs)) : BagAt K H' b c L := by
  obtain ⟨dx, t, h1, h2⟩ := h
  obtain ⟨xs, hx⟩ := ha
  obtain ⟨ps, o, e1, e2⟩ := id h2
  exact ⟨dx, t, k _ _ h1 (ne_of h1 hx (by intro z; cases z)), h2.but k (ne_of e1 hx (by intro z; cases z)) fun ys => by rw [hx]; intro z; cases z⟩
section
variable {P : Program} {w : World} {K : PySem.W.Frag} {mg : Str → Option Value} {base : Heap}
def spLaw (K : PySem.W.Frag) : Sp := fun vs H Q _ => ∃ (a : Addr) (ns : List Int), vs = [.ref a] ∧ SqL K H a (ns.map V.int) ∧ ∀ H', Q (.bl true) H'
abbrev nLaw : List Str := ["_law_script", "_law_hand_here", "_law_turn", "_law_clock_here", "_law_one", "_law_other", "_law_more", "_law_ways", "_law_parts", "_law_told", "_law_whole", "_law_long", "_law_due"]
theorem sc_law : FnScope nLaw ["_law_script"] (defScope s_law) := ⟨rfl, rfl, rfl, by decide +kernel, rfl, by decide +kernel, by decide +kernel⟩
theorem ok_law (T : Top K mg) {fd : FuncData} (F : FnP K "law" "law" s_law (He.fAd K ("law", none)) fd) : FnOk P w K mg base CX0 11 (He.ga K "law") fd ["_law_script"] (spLaw K) := by
  refine F.ok sc_law (fun vs H Q E h => ?_) (fun cdv A outer s H vs Q E hr h => ?_)
  · obtain ⟨a, ns, rfl, _⟩ := h
    rfl
  · obtain ⟨a, ns, rfl, hS, q⟩ := h
    have nd := sc_law.nd
    have hu := hu_of hr
    have hs : sizeLine = 16777216 := sizeLine_eq
    have hr1 : Room 1 _ := hr.mono (by decide)
    have hr2 : Room 2 _ := hr.mono (by decide)
    have hr3 : Room 3 _ := hr.mono (by decide)
    have hr4 : Room 4 _ := hr.mono (by decide)
    have hr6 : Room 6 _ := hr.mono (by decide)
    have hr8 : Room 8 _ := hr.mono (by decide)
    have hr10 := hr
    refine ⟨_, PSs.nox (pss_cons (ps_set (i := 1) nd rfl (Or.inl rfl) (pc (ok_hand T) hr1 (pa_cons (pv 0) pa_nil)))
      (pss_cons (ps_for PassesOwn.never rfl (pi_range1 (by rfl) (f_range T) (pa_cons pe_int pa_nil)) (pg_name (i := 2) nd rfl (Or.inl rfl))
      (pss_cons (ps_set (i := 3) nd rfl (Or.inl rfl) (pc (ok_ck T) hr2 (pa_cons (pv 1) pa_nil)))
      (pss_cons (ps_set (i := 4) nd rfl (Or.inl rfl) (pc (ok_llevel T) hr3 (pa_cons (pv 1) (pa_cons (pv 3) (pa_cons pe_int pa_nil)))))
      (pss_cons (ps_set (i := 5) nd rfl (Or.inl rfl) (pc (ok_llevel T) hr3 (pa_cons (pv 1) (pa_cons (pv 3) (pa_cons pe_int pa_nil)))))
      (pss_cons (ps_set (i := 6) nd rfl (Or.inl rfl) (pc (ok_lprod T) hr2 (pa_cons (pv 3) (pa_cons (pv 5) (pa_cons (pc (ok_llevel T) hr3 (pa_cons (pv 1) (pa_cons (pv 3) (pa_cons pe_int pa_nil)))) pa_nil)))))
      (pss_cons (ps_set (i := 7) nd rfl (Or.inl rfl) (pe_lst pa_nil))
      (pss_cons (ps_for PassesOwn.never rfl (pi_list (pe_lst (pa_cons (pv 4) (pa_cons (pv 5) (pa_cons (pv 6) pa_nil))))) (pg_name (i := 8) nd rfl (Or.inl rfl))
      (pss_cons (ps_set (i := 9) nd rfl (Or.inl rfl) (pc (ok_lw T) hr10 (pa_cons (pbag T hr6 (pa_cons (pv 3) (pa_cons (pv 8) pa_nil))) pa_nil)))
      (pss_cons (ps_if (pt_not (pt_val (pc (ok_iw T) hr4 (pa_cons (pv 3) (pa_cons (pv 8) (pa_cons (pv 9) pa_nil)))))) (pss_one (ps_ret pe_bl)) pss_nil)
      (pss_cons (ps_if (pt_cmpR (opNeT T hr2) (pc (ok_lw T) hr10 (pa_cons (pc (ok_times T) hr8 (pa_cons (pbag T hr6 (pa_cons (pv 3) (pa_cons (pv 8) pa_nil))) (pa_cons (pe_op op_add pe_int (pc (ok_draw T) hr1 (pa_cons (pv 1) (pa_cons (pe_op op_sub (pv 3) pe_int) pa_nil)))) pa_nil))) pa_nil)) (pv 9) (nomark _)) (pss_one (ps_ret pe_bl)) pss_nil)
      (pss_one (ps_expr (pe_bm PySem.F.plainAttrs_list PySem.F.slot_list_append PySem.F.type_list_append mt_append (pv 7) (pa_cons (pv 9) pa_nil))))))))
      (pss_cons (ps_set (i := 10) nd rfl (Or.inl rfl) (pcL (ok_behind T) hr8 (pa_cons (pbag T hr6 (pa_cons (pv 3) (pa_cons (pv 4) pa_nil))) (pa_cons (pbag T hr6 (pa_cons (pv 3) (pa_cons (pv 6) pa_nil))) pa_nil))))
      (pss_cons (ps_if (PW.pt (pw_or (pt_cmpR (opNeT T hr2) (pc (ok_lw T) hr10 (pa_cons (pv 10) pa_nil)) (pe_op op_catW (pe_ix ix_list (pv 7) pe_int (fun _ _ => rfl)) (pe_ix ix_list (pv 7) pe_int (fun _ _ => rfl))) (nomark _)) (pw_or1 (pt_not (pt_val (pc (ok_iw T) hr4 (pa_cons (pv 3) (pa_cons (pc (ok_ldict T) hr1 (pa_cons (pv 10) pa_nil)) (pa_cons (pc (ok_lw T) hr10 (pa_cons (pv 10) pa_nil)) pa_nil))))))))) (pss_one (ps_ret pe_bl)) pss_nil)
      (pss_cons (ps_if (pt_cmpR (opNeT T hr2) (pc (ok_lw T) hr10 (pa_cons (pbag T hr6 (pa_cons (pv 3) (pa_cons (pe_disp (pps_cons pe_str (pe_op op_add pe_int (pc (ok_draw T) hr1 (pa_cons (pv 1) (pa_cons (pe_op op_sub (pv 3) pe_int) pa_nil)))) pps_nil) (by rfl) (by rfl) (fun z => by cases z) (by decide)) pa_nil))) pa_nil)) (pe_tup pa_nil) (nomark _)) (pss_one (ps_ret pe_bl)) pss_nil)
      (pss_cons (ps_set (i := 11) nd rfl (Or.inl rfl) (pcL (ok_behind T) hr8 (pa_cons (pv 10) (pa_cons (pv 10) pa_nil))))
      (pss_one (ps_if (PW.pt (pw_and (pt_cmpR op_eq (pv 2) pe_int (nomark _)) (pw_and1 (pt_cmpR op_eq (pc (ok_draw T) hr1 (pa_cons (pv 1) (pa_cons pe_int pa_nil))) pe_int (nomark _))))) (pss_cons (ps_set (i := 12) nd rfl (Or.inl rfl) (pc (ok_lw T) hr10 (pa_cons (pv 10) pa_nil)))
      (pss_one (ps_if (PW.pt (pw_or (pt_cmpR (opNeT T hr2) (pc (ok_lw T) hr10 (pa_cons (pv 11) pa_nil)) (pe_op op_catW (pv 12) (pv 12)) (nomark _)) (pw_or1 (pt_not (pt_val (pc (ok_iw T) hr4 (pa_cons (pv 3) (pa_cons (pc (ok_ldict T) hr1 (pa_cons (pv 11) pa_nil)) (pa_cons (pe_op op_catW (pv 12) (pv 12)) pa_nil))))))))) (pss_one (ps_ret pe_bl)) pss_nil))) pss_nil)))))))))))))
      (pss_one (ps_ret pe_bl)))), ?_⟩
    refine ⟨_, rfl, a, ns, rfl, hS, fun H1 h ca s1 nh1 hh1 => ?_⟩
    refine ⟨3, rfl, by decide, by decide, ?_⟩
    refine for_it walk_range (fun i σ H' => (∃ x0 x2 x3 x4 x5 x6 x7 x8 x9 x10 x11 x12, σ = [x0, some (.ref h), x2, x3, x4, x5, x6, x7, x8, x9, x10, x11, x12]) ∧ HandAt ca H' h) ⟨⟨_, _, _, _, _, _, _, _, _, _, _, _, rfl⟩, hh1⟩ (fun _ _ _ _ _ => trivial) ?_ (fun σ H' _ => q H')
    rintro i x σ G0 G0' hi ⟨⟨x0, x2, x3, x4, x5, x6, x7, x8, x9, x10, x11, x12, rfl⟩, hh⟩ ⟨rfl, rfl⟩
    clear hh1 s1 nh1
    refine ⟨_, rfl, h, ca, rfl, hh, fun G1 c hg1 k1 hck => ?_⟩
    obtain ⟨hc2, hc7⟩ := ck_range hck
    have c0 : 0 < c := by omega
    refine ⟨_, rfl, _, rfl, h, ca, c, 3, rfl, hg1, hck, by decide, fun G2 d1 n1 l1 hg2 k2 nd1 e1 v1 a1 b1 hn1 => ?_⟩
    refine ⟨_, rfl, _, rfl, h, ca, c, 3, rfl, hg2, hck, by decide, fun G3 d2 n2 l2 hg3 k3 nd2 e2 v2 a2 b2 hn2 => ?_⟩
    replace e1 := k3 _ _ e1 (hg2.neD e1)
    refine ⟨_, rfl, _, rfl, _, rfl, _, rfl, h, ca, c, 2, rfl, hg3, hck, by decide, fun G4 d9 n9 l9 hg4 k4 nd9 e9 v9 a9 b9 hn9 => ?_⟩
    have ne29 : d2 ≠ d9 := ne_of_none e2 nd9
    replace e1 := k4 _ _ e1 (hg3.neD e1)
    replace e2 := k4 _ _ e2 (hg3.neD e2)
    refine ⟨c, d2, d9, n2, n9, 3, 3, l2, l9, rfl, hck, ne29, e2, e9, v2, v9, by omega, by omega, by decide, by decide, fun G5 d3 l3 s5 nd3 e3 v3 lt3 => ?_⟩
    replace e1 := s5 _ _ e1
    replace e2 := s5 _ _ e2
    have hg5 := hg4.same s5
    have b3 : Lev (n2 + n9) l3 := lev_lk c0 v3 lt3 (lev_prs b2 b9)
    have a3 : l3 ≠ [] := prd_ne hck v3 v2 v9 lt3 b2 a2 a9
    have hn3 : n2 + n9 ≤ 5 := by omega
    generalize n2 + n9 = n3 at b3 v3 hn3
    obtain ⟨rs, hrs⟩ : ∃ rs : List Rt, rs = [(d1, n1, 3, l1), (d2, n2, 3, l2), (d3, n3, 9, l3)] := ⟨_, rfl⟩
    have hrw : ∀ r ∈ rs, Rw c r := fun r hr => by
      rw [hrs] at hr
      simp only [List.mem_cons, List.not_mem_nil, or_false] at hr
      rcases hr with rfl | rfl | rfl
      · exact ⟨v1, a1, b1, by show n1 ≤ 5; omega, by show 3 ≤ 9; decide⟩
      · exact ⟨v2, a2, b2, by show n2 ≤ 5; omega, by show 3 ≤ 9; decide⟩
      · exact ⟨v3, a3, b3, hn3, by show 9 ≤ 9; decide⟩
    have hra : RowsAt G5 rs := fun r hr => by
      rw [hrs] at hr
      simp only [List.mem_cons, List.not_mem_nil, or_false] at hr
      rcases hr with rfl | rfl | rfl
      · exact e1
      · exact e2
      · exact e3
    clear e1 e2 e3 e9 v9 a9 b9 lt3 hg1 hg2 hg3 hg4 k1 k2 k3 k4 nd1 nd2 nd3 nd9 s5 ne29 hh v2 a2 b2
    refine ⟨by show 0 ≤ sizeLine; omega, fun W nW => ?_⟩
    have nWh : h ≠ W := by
      obtain ⟨xs, hx⟩ := hg5.lst
      exact ne_of_none hx nW
    have nWc : ca ≠ W := by
      obtain ⟨xs, hx⟩ := hg5.cells
      exact ne_of_none hx nW
    have s6 := same_upd (o := .lst []) nW
    have eW := upd_same (H := G5) (a := W) (o := HO.lst [])
    replace hra := hra.same s6
    have hg6 := hg5.same s6
    generalize upd G5 W (.lst []) = G6 at eW hra hg6 ⊢
    clear s6 nW hg5
    refine ⟨_, rfl, _, rfl, _, rfl, by show 3 ≤ sizeLine; omega, fun L nL => ?_⟩
    have s7 := same_upd (o := .lst [.ref d1, .ref d2, .ref d3]) nL
    have eL := upd_same (H := G6) (a := L) (o := HO.lst [.ref d1, .ref d2, .ref d3])
    have nLh : L ≠ h := by
      obtain ⟨xs, hx⟩ := hg6.lst
      exact (ne_of_none hx nL).symm
    have nLW : L ≠ W := (ne_of_none eW nL).symm
    replace eW := s7 _ _ eW
    replace hra := hra.same s7
    have hg7 := hg6.same s7
    generalize upd G6 L (.lst [.ref d1, .ref d2, .ref d3]) = G7 at eW eL hra hg7 ⊢
    clear s7 nL hg6
    have e3r : ([.ref d1, .ref d2, .ref d3] : List V) = rs.map fun r => V.ref r.1 := by rw [hrs]; rfl
    rw [e3r] at eL
    refine ⟨L, rfl, ⟨_, SqL.of eL⟩, ?_⟩
    refine for_it (walk_list (xs := rs.map fun r => V.ref r.1)) (fun i2 σ H' => (∃ x8 x9, σ = [x0, some (.ref h), _, some (.int c), some (.ref d1), some (.ref d2), some (.ref d3), some (.ref W), x8, x9, x10, x11, x12]) ∧ HandAt ca H' h ∧ RowsAt H' rs ∧ H' L = some (.lst (rs.map fun r => V.ref r.1)) ∧ ∃ ts : List Addr, ts.length = i2 ∧ H' W = some (.lst (ts.map V.ref)) ∧ ToldAt K H' c rs ts)
      ⟨⟨_, _, rfl⟩, hg7, hra, eL, [], rfl, eW, fun j t e => by simp at e⟩ (fun i σ H' _ hP => SqL.of hP.2.2.2.1) ?_ ?_
    · clear hg7 hra eL eW
      rintro i2 x σ J0 J1 hi2 ⟨⟨x8, x9, rfl⟩, hg, hra, eL, ts, hts, eW, told⟩ ⟨rfl, ex⟩
      rw [List.length_map] at hi2
      have er : rs[i2]? = some rs[i2] := List.getElem?_eq_getElem hi2
      generalize rs[i2] = r at er
      obtain ⟨dd, nn, kk, ll⟩ := r
      rw [List.getElem?_map, er] at ex
      obtain rfl : V.ref dd = x := Option.some.inj ex
      have hm := List.mem_of_getElem? er
      obtain ⟨v, a', b', n5, k9⟩ := hrw _ hm
      simp only at v a' b' n5 k9
      have ed : J1 dd = some (.dK (kv ll)) := hra _ hm
      have hi3 : i2 < 3 := by rw [hrs] at hi2; exact hi2
      -- the way
      refine ⟨_, rfl, _, rfl, fun b dx hb hdx ne => ?_⟩
      refine ⟨b, dd, dx, c, ll, rfl, upd_same, hck, made_dict ed hb hdx, v.mono (by omega) (by omega), fun J2 k2 gb => ⟨rfl, ?_⟩⟩
      have s2 := made_same k2 hb hdx
      replace hg := hg.same s2
      replace hra := hra.same s2
      replace eL := s2 _ _ eL
      replace eW := s2 _ _ eW
      replace told := told.same s2
      clear k2 s2 hb hdx ne ed
      refine ⟨b, nn, nn, kk, c, ll, rfl, ⟨gb, v⟩, hck, a', b', by omega, by omega, by omega, fun J3 t ps lp j s3 nt et bs vp lk hj wy => ?_⟩
      have tw := tw_of v (by omega) et bs vp lk hj wy
      have ntW : t ≠ W := ne_of et (s3 _ _ eW) (by intro y; cases y)
      replace hg := hg.same s3
      replace hra := hra.same s3
      replace eL := s3 _ _ eL
      replace eW := s3 _ _ eW
      replace told := told.same s3
      have ed := hra _ hm
      have hpl := Pl.of_scl v vp (unit_r hj) lk
      have llp := hpl.lev hck v vp b'
      have alp := hpl.ne hck v vp a'
      have hlens : ∀ p ∈ ps, p.2.length ≤ 60 := fun p hp => by
        have := wy.lens hck vp llp alp p.2 (List.mem_map.mpr ⟨p, hp, rfl⟩)
        have := vp.ln
        omega
      refine ⟨_, rfl, _, rfl, _, rfl, c, j, dd, t, nn, nn, kk, nn, kk, ll, lp, ps, rfl, hck, ed, v, a', by omega, by omega, et, bs, hlens, vp, llp, alp, by omega, by omega, by have := tw.2.2.2; omega, lk, wy, fun J4 s4 => ⟨true, rfl, iteF ?_⟩⟩
      replace hg := hg.same s4
      replace hra := hra.same s4
      replace eL := s4 _ _ eL
      replace eW := s4 _ _ eW
      replace told := told.same s4
      replace tw := tw.same s4
      clear s3 s4 et bs lk hj wy vp hpl llp alp hlens lp nt gb
      -- so many times the bag
      replace ed := hra _ hm
      refine ⟨_, rfl, _, rfl, fun b2 dx2 hb2 hdx2 ne2 => ?_⟩
      refine ⟨b2, dd, dx2, c, ll, rfl, upd_same, hck, made_dict ed hb2 hdx2, v.mono (by omega) (by omega), fun J5 k5 gb => ⟨rfl, ?_⟩⟩
      have s5 := made_same k5 hb2 hdx2
      replace hg := hg.same s5
      replace hra := hra.same s5
      replace eL := s5 _ _ eL
      replace eW := s5 _ _ eW
      replace told := told.same s5
      replace tw := tw.same s5
      clear k5 s5 hb2 hdx2 ne2 ed
      refine ⟨_, rfl, _, rfl, _, _, rfl, rfl, h, ca, c - 1, rfl, by omega, by omega, hg, fun f J6 z1 z2 hg6 k6 => ?_⟩
      have hlst := hg.lst
      replace hra := hra.off k6 hlst
      replace eL := k6 _ _ eL nLh
      replace eW := k6 _ _ eW nWh.symm
      replace told := told.off k6 hlst
      replace tw := tw.off k6 hlst
      replace gb := gb.but k6 hlst
      refine ⟨_, _, rfl, rfl, b2, 1 + f, c, nn, kk, ll, rfl, ⟨gb, v⟩, hck, by omega, by omega, fun J7 r7 t7 s7 n7 g7 lk7 => ?_⟩
      replace hra := hra.same s7
      replace hg := hg6.same s7
      replace eL := s7 _ _ eL
      replace eW := s7 _ _ eW
      replace told := told.same s7
      replace tw := tw.same s7
      have hp7 := Pl.of_scl v g7.2 (not_dvd (show 1 ≤ 1 + f by omega) (show 1 + f < c by omega)) lk7
      have l7 := hp7.lev hck v g7.2 b'
      have a7 := hp7.ne hck v g7.2 a'
      refine ⟨r7, nn, nn, kk, c, t7, rfl, g7, hck, a7, l7, by omega, by omega, by omega, fun J8 t8 ps8 lp8 j8 s8 nt8 et8 bs8 vp8 lk8 hj8 wy8 => ?_⟩
      have tw8 := tw_of (n := nn) (k := kk) g7.2 (by omega) et8 bs8 vp8 lk8 hj8 wy8
      replace hra := hra.same s8
      replace hg := hg.same s8
      replace eL := s8 _ _ eL
      replace eW := s8 _ _ eW
      replace told := told.same s8
      replace tw := tw.same s8
      have eq8 := WyOf.uniq hck v g7.2 b' a' hp7 tw.2.2.1 tw8.2.2.1
      refine ⟨_, rfl, rd_neW tw8.1 tw.1 tw8.2.1 tw.2.1 eq8.symm fun J9 s9 => ⟨false, rfl, iteF ?_⟩⟩
      replace hra := hra.same s9
      replace hg := hg.same s9
      replace eL := s9 _ _ eL
      replace eW := s9 _ _ eW
      replace told := told.same s9
      replace tw := tw.same s9
      have kb : But W J9 (upd J9 W (.lst (ts.map V.ref ++ [.ref t]))) := but_upd
      have lstW : ∃ xs, J9 W = some (.lst xs) := ⟨_, eW⟩
      refine ⟨_, rfl, .inl ⟨rfl, _, SqL.of eW⟩, _, rfl, W, _, _, rfl, rfl, eW, by rw [List.length_map]; omega, ?_⟩
      refine ⟨⟨_, _, rfl⟩, hg.off kb nWh nWc, hra.off kb lstW, kb _ _ eL nLW, ts ++ [t], by rw [List.length_append, hts]; rfl, by rw [upd_same, List.map_append]; rfl, fun j' t' e' => ?_⟩
      rcases Nat.lt_or_ge j' ts.length with z | z
      · rw [List.getElem?_append_left z] at e'
        obtain ⟨r, ps', h1, h2⟩ := told j' t' e'
        exact ⟨r, ps', h1, h2.off kb lstW⟩
      · rw [List.getElem?_append_right z] at e'
        have z2 : j' - ts.length = 0 := by
          rcases Nat.eq_zero_or_pos (j' - ts.length) with y | y
          · exact y
          · rw [List.getElem?_eq_none (by simp; omega)] at e'
            cases e'
        rw [z2] at e'
        obtain rfl : t = t' := by simpa using e'
        have : j' = i2 := by omega
        subst this
        exact ⟨_, ps, er, tw.off kb lstW⟩
    · clear hg7 hra eL eW
      rintro σ J1 ⟨⟨x8, x9, rfl⟩, hg, hra, eL, ts, hts, eW, told⟩
      have hts3 : ts.length = 3 := by rw [hts, List.length_map, hrs]; rfl
      obtain ⟨t1, t2, t3, ets⟩ : ∃ t1 t2 t3, ts = [t1, t2, t3] := by
        match ts, hts3 with
        | [x, y, z], _ => exact ⟨x, y, z, rfl⟩
      obtain ⟨r1, ps1, er1, tw1⟩ := told 0 t1 (by rw [ets]; rfl)
      obtain ⟨r3, ps3, er3, tw3⟩ := told 2 t3 (by rw [ets]; rfl)
      rw [hrs] at er1 er3
      obtain rfl : (d1, n1, 3, l1) = r1 := by simpa using er1
      obtain rfl : (d3, n3, 9, l3) = r3 := by simpa using er3
      simp only at tw1 tw3
      have e1 : J1 d1 = some (.dK (kv l1)) := hra (d1, n1, 3, l1) (by rw [hrs]; simp)
      have e3 : J1 d3 = some (.dK (kv l3)) := hra (d3, n3, 9, l3) (by rw [hrs]; simp)
      rw [ets] at eW
      clear hra told er1 er3 hts hts3 eL hrw ets
      -- the whole
      refine ⟨_, rfl, _, rfl, fun b1' dx1 hb1 hdx1 ne1 => ?_⟩
      refine ⟨b1', d1, dx1, c, l1, rfl, upd_same, hck, made_dict e1 hb1 hdx1, v1.mono (by omega) (by decide), fun J2 k2 gb1 => ⟨rfl, ?_⟩⟩
      have s2 := made_same k2 hb1 hdx1
      replace hg := hg.same s2
      replace eW := s2 _ _ eW
      replace tw1 := tw1.same s2
      replace tw3 := tw3.same s2
      replace e3 := s2 _ _ e3
      clear k2 s2 hb1 hdx1 ne1 e1
      refine ⟨_, rfl, _, rfl, fun b3' dx3 hb3 hdx3 ne3 => ?_⟩
      refine ⟨b3', d3, dx3, c, l3, rfl, upd_same, hck, made_dict e3 hb3 hdx3, v3.mono (by omega) (by decide), fun J3 k3 gb3 => ⟨rfl, ?_⟩⟩
      have s3 := made_same k3 hb3 hdx3
      replace hg := hg.same s3
      replace eW := s3 _ _ eW
      replace tw1 := tw1.same s3
      replace tw3 := tw3.same s3
      replace gb1 := gb1.same s3
      clear k3 s3 hb3 hdx3 ne3 e3
      refine ⟨b1', b3', c, c, n1, 3, n3, 3 * 3, l1, l3, rfl, ⟨gb1, v1⟩, ⟨gb3, v3⟩, hck, by omega, by omega, by decide, fun _ J4 B tB s4 nB gB ltB => ?_, fun y => absurd rfl y⟩
      replace hg := hg.same s4
      replace eW := s4 _ _ eW
      replace tw1 := tw1.same s4
      replace tw3 := tw3.same s4
      have vB := gB.2
      have lB : Lev (n1 + n3) tB := lev_lk c0 vB ltB (lev_prs b1 b3)
      have aB : tB ≠ [] := prd_ne hck vB v1 v3 ltB b1 a1 a3
      clear s4 nB gb1 gb3
      have hlw : n1 + n3 ≤ 8 := by omega
      -- its way is the ways of both
      refine ⟨_, rfl, B, n1 + n3, n1 + n3, 3 * (3 * 3), c, tB, rfl, gB, hck, aB, lB, by omega, by omega, by decide, fun J5 tw psw lpw jw s5 ntw etw bsw vpw lkw hjw wyw => ?_⟩
      have tww := tw_of vB (by omega) etw bsw vpw lkw hjw wyw
      replace hg := hg.same s5
      replace eW := s5 _ _ eW
      replace tw1 := tw1.same s5
      replace tw3 := tw3.same s5
      replace gB := gB.same s5
      clear s5 ntw etw bsw vpw lkw hjw wyw lpw
      have p1 := tw1.2.2.2
      have p3 := tw3.2.2.2
      refine ⟨_, rfl, W, _, 0, _, rfl, rfl, SqL.of eW, rfl, _, rfl, W, _, 2, _, rfl, rfl, SqL.of eW, rfl, t1, t3, _, _, rfl, rfl, tw1.1, tw3.1, by rw [List.length_map, List.length_map]; omega, fun pq J6 s6 epq => ?_⟩
      replace hg := hg.same s6
      replace tww := tww.same s6
      replace gB := gB.same s6
      rw [← List.map_append] at epq
      have bpq : BagsAt K J6 c (ps1 ++ ps3) := fun p hp => by
        rcases List.mem_append.mp hp with hp | hp
        · exact (tw1.2.1 p hp).same s6
        · exact (tw3.2.1 p hp).same s6
      have eqw : psw.map (·.2) = (ps1 ++ ps3).map (·.2) := by
        rw [List.map_append]
        exact WyOf.prd hck v1 v3 vB b1 b3 a1 a3 ltB tw1.2.2.1 tw3.2.2.1 tww.2.2.1
      refine rd_neW tww.1 epq tww.2.1 bpq eqw fun J7 s7 => ⟨false, rfl, iteF ?_⟩
      replace hg := hg.same s7
      replace gB := gB.same s7
      clear s6 s7 epq bpq eqw tww tw1 tw3 p1 p3 eW
      refine ⟨_, rfl, _, rfl, B, c, canon tB, rfl, gB.1, canon_nd vB.nd, fun J8 D s8 nD eD => ?_⟩
      replace hg := hg.same s8
      replace gB := gB.same s8
      refine ⟨_, rfl, B, n1 + n3, n1 + n3, 3 * (3 * 3), c, tB, rfl, gB, hck, aB, lB, by omega, by omega, by decide, fun J9 tv psv lpv jv s9 ntv etv bsv vpv lkv hjv wyv => ?_⟩
      have hplv := Pl.of_scl vB vpv (unit_r hjv) lkv
      have llv := hplv.lev hck vB vpv lB
      have alv := hplv.ne hck vB vpv aB
      have twv := tw_of vB (by omega) etv bsv vpv lkv hjv wyv
      have hlv : ∀ p ∈ psv, p.2.length ≤ 60 := fun p hp => by
        have := wyv.lens hck vpv llv alv p.2 (List.mem_map.mpr ⟨p, hp, rfl⟩)
        have := vpv.ln
        omega
      replace hg := hg.same s9
      replace gB := gB.same s9
      refine ⟨c, jv, D, tv, n1 + n3, n1 + n3, 3 * (3 * 3), n1 + n3, 3 * (3 * 3), canon tB, lpv, psv, rfl, hck, s9 _ _ eD, vt_canon vB, canon_nil aB, by omega, by decide, etv, bsv, hlv, vpv, llv, alv, by omega, by decide, by have := twv.2.2.2; omega, lkv.trans (Lk.scl jv (lk_canon vB.nd).symm), wyv, fun J10 s10 => ⟨true, rfl, iteF ?_⟩⟩
      replace hg := hg.same s10
      replace gB := gB.same s10
      clear s8 s9 s10 nD eD ntv etv bsv vpv lkv hjv wyv hplv llv alv twv hlv lpv
      -- a number alone
      refine ⟨_, rfl, fun D hD => ?_⟩
      have nDh : D ≠ h := by
        obtain ⟨xs, hx⟩ := hg.lst
        exact (ne_of_none hx hD).symm
      have s11 := same_upd (o := .dK []) hD
      have eD := upd_same (H := J10) (a := D) (o := HO.dK [])
      replace hg := hg.same s11
      replace gB := gB.same s11
      generalize upd J10 D (.dK []) = J11 at eD hg gB ⊢
      clear s11 hD
      refine ⟨_, rfl, _, rfl, _, _, rfl, rfl, h, ca, c - 1, rfl, by omega, by omega, hg, fun f J12 z1 z2 hg12 k12 => ?_⟩
      replace gB : Bg K J12 B c (n1 + n3) (3 * (3 * 3)) tB := ⟨gB.1.but k12 hg.lst, vB⟩
      replace eD := k12 _ _ eD nDh
      replace hg := hg12
      have v0 : VT c 0 1 [("", 1 + f)] := vt_one (by omega) (by omega)
      refine ⟨_, _, rfl, rfl, eD, kv [("", 1 + f)], rfl, Nat.le_of_ble_eq_true rfl, ?_⟩
      rw [merge_kv v0.nd]
      have kD : But D J12 (upd J12 D (.dK (kv [("", 1 + f)]))) := but_upd
      have eD2 := upd_same (H := J12) (a := D) (o := HO.dK (kv [("", 1 + f)]))
      have hgD : HandAt ca (upd J12 D (.dK (kv [("", 1 + f)]))) h := hg.but kD fun xs z => by rw [eD] at z; cases z
      have gBD : BagAt K (upd J12 D (.dK (kv [("", 1 + f)]))) B c (canon tB) := gB.1.butD kD ⟨_, eD⟩
      replace hg := hgD
      replace gB : Bg K (upd J12 D (.dK (kv [("", 1 + f)]))) B c (n1 + n3) (3 * (3 * 3)) tB := ⟨gBD, vB⟩
      generalize upd J12 D (.dK (kv [("", 1 + f)])) = J13 at hg gB eD2 ⊢
      clear hgD gBD kD hg12 k12 eD nDh
      refine fun b4 dx4 hb4 hdx4 ne4 => ?_
      refine ⟨b4, D, dx4, c, _, rfl, upd_same, hck, made_dict eD2 hb4 hdx4, v0.mono (by decide) (by decide), fun J14 k14 gb4 => ⟨rfl, ?_⟩⟩
      have s14 := made_same k14 hb4 hdx4
      replace hg := hg.same s14
      replace gB := gB.same s14
      clear s14 k14 hb4 hdx4 ne4 eD2
      have l0 : Lev 0 [(("" : Str), 1 + f)] := fun p hp => by
        obtain rfl : p = ((("" : Str)), 1 + f) := by simpa using hp
        rfl
      refine ⟨b4, 0, 0, 1, c, _, rfl, ⟨gb4, v0⟩, hck, (fun z => by cases z), l0, by decide, by decide, by decide, fun J15 t5 ps5 lp5 j5 s15 nt5 et5 bs5 vp5 lk5 hj5 wy5 => ?_⟩
      have e5 : ps5 = [] := List.map_eq_nil_iff.mp wy5.zero
      subst e5
      replace hg := hg.same s15
      replace gB := gB.same s15
      refine ⟨by show 0 ≤ sizeLine; omega, fun t6 ht6 => ?_⟩
      have s16 := same_upd (o := .tup []) ht6
      replace hg := hg.same s16
      replace gB := gB.same s16
      refine rd_neW (ps := []) (qs := []) (c := c) (s16 _ _ et5) upd_same (fun p hp => by cases hp) (fun p hp => by cases hp) rfl fun J17 s17 => ⟨false, rfl, iteF ?_⟩
      replace hg := hg.same s17
      replace gB := gB.same s17
      clear s15 s16 s17 ht6 et5 bs5 vp5 lk5 hj5 wy5 nt5 gb4 lp5
      -- the whole twice
      refine ⟨_, rfl, _, rfl, B, B, c, c, n1 + n3, 3 * (3 * 3), n1 + n3, 3 * (3 * 3), tB, tB, rfl, gB, gB, hck, by omega, by omega, by decide, fun _ J18 C tC s18 nC gC ltC => ?_, fun y => absurd rfl y⟩
      replace hg := hg.same s18
      replace gB := gB.same s18
      have vC := gC.2
      have lC : Lev (n1 + n3 + (n1 + n3)) tC := lev_lk c0 vC ltC (lev_prs lB lB)
      have aC : tC ≠ [] := prd_ne hck vC vB vB ltC lB aB aB
      clear s18 nC
      refine ⟨_, rfl, rfl, _, rfl, ?_⟩
      refine ite2 (fun _ => ?_) (fun _ => ⟨⟨_, _, _, _, _, _, _, _, _, _, _, _, rfl⟩, hg⟩)
      refine ⟨_, rfl, h, ca, 4, rfl, by decide, by decide, hg, fun f2 J19 z3 z4 hg19 k19 => ⟨rfl, _, rfl, ?_⟩⟩
      refine ite2 (fun _ => ?_) (fun _ => ⟨⟨_, _, _, _, _, _, _, _, _, _, _, _, rfl⟩, hg19⟩)
      replace gB : Bg K J19 B c (n1 + n3) (3 * (3 * 3)) tB := ⟨gB.1.but k19 hg.lst, vB⟩
      replace gC : Bg K J19 C c (n1 + n3 + (n1 + n3)) (3 * (3 * 3) * (3 * (3 * 3))) tC := ⟨gC.1.but k19 hg.lst, vC⟩
      replace hg := hg19
      clear hg19 k19 z1 z2 z3 z4
      refine ⟨_, rfl, B, n1 + n3, n1 + n3, 3 * (3 * 3), c, tB, rfl, gB, hck, aB, lB, by omega, by omega, by decide, fun J20 td psd lpd jd s20 ntd etd bsd vpd lkd hjd wyd => ?_⟩
      have twd := tw_of vB (by omega) etd bsd vpd lkd hjd wyd
      have hpld := Pl.of_scl vB vpd (unit_r hjd) lkd
      have lld := hpld.lev hck vB vpd lB
      have ald := hpld.ne hck vB vpd aB
      have hld : ∀ p ∈ psd, p.2.length ≤ 60 := fun p hp => by
        have := wyd.lens hck vpd lld ald p.2 (List.mem_map.mpr ⟨p, hp, rfl⟩)
        have := vpd.ln
        omega
      replace hg := hg.same s20
      replace gC := gC.same s20
      clear s20 ntd etd bsd lkd hjd wyd hpld lld ald gB vpd lpd
      have pd := twd.2.2.2
      refine ⟨_, rfl, C, n1 + n3 + (n1 + n3), n1 + n3 + (n1 + n3), 3 * (3 * 3) * (3 * (3 * 3)), c, tC, rfl, gC, hck, aC, lC, by omega, by omega, by decide, fun J21 tl psl lpl jl s21 ntl etl bsl vpl lkl hjl wyl => ?_⟩
      have twl := tw_of vC (by omega) etl bsl vpl lkl hjl wyl
      have hpll := Pl.of_scl vC vpl (unit_r hjl) lkl
      have lll := hpll.lev hck vC vpl lC
      have all := hpll.ne hck vC vpl aC
      have eqd : psl.map (·.2) = (psd ++ psd).map (·.2) := by
        rw [List.map_append]
        exact WyOf.prd hck vB vB vC lB lB aB aB ltC twd.2.2.1 twd.2.2.1 twl.2.2.1
      rw [eqd] at wyl
      replace hg := hg.same s21
      replace gC := gC.same s21
      replace twd := twd.same s21
      clear s21 ntl etl bsl
      refine ⟨_, rfl, _, rfl, td, td, _, _, rfl, rfl, twd.1, twd.1, by rw [List.length_map]; omega, fun pq J22 s22 epq => ?_⟩
      replace hg := hg.same s22
      replace gC := gC.same s22
      replace twd := twd.same s22
      replace twl := twl.same s22
      rw [← List.map_append] at epq
      have bpq : ∀ {J : Hp}, BagsAt K J c psd → BagsAt K J c (psd ++ psd) := fun h p hp => by
        rcases List.mem_append.mp hp with hp | hp
        · exact h p hp
        · exact h p hp
      refine rd_neW twl.1 epq twl.2.1 (bpq twd.2.1) eqd fun J23 s23 => ⟨false, rfl, iteF ?_⟩
      replace hg := hg.same s23
      replace gC := gC.same s23
      replace twd := twd.same s23
      clear s22 s23 epq twl
      refine ⟨_, rfl, _, rfl, C, c, canon tC, rfl, gC.1, canon_nd vC.nd, fun J24 D s24 nD eD => ?_⟩
      replace hg := hg.same s24
      replace twd := twd.same s24
      refine ⟨_, rfl, _, rfl, td, td, _, _, rfl, rfl, twd.1, twd.1, by rw [List.length_map]; omega, fun pq2 J25 s25 epq => ?_⟩
      replace hg := hg.same s25
      replace twd := twd.same s25
      rw [← List.map_append] at epq
      have hld2 : ∀ p ∈ psd ++ psd, p.2.length ≤ 60 := fun p hp => by
        rcases List.mem_append.mp hp with hp | hp
        · exact hld p hp
        · exact hld p hp
      refine ⟨c, jl, D, pq2, n1 + n3 + (n1 + n3), n1 + n3 + (n1 + n3), 3 * (3 * 3) * (3 * (3 * 3)), n1 + n3 + (n1 + n3), 3 * (3 * 3) * (3 * (3 * 3)), canon tC, lpl, psd ++ psd, rfl, hck, s25 _ _ eD, vt_canon vC, canon_nil aC, by omega, by decide, epq, bpq twd.2.1, hld2, vpl, lll, all, by omega, by decide, by rw [List.length_append]; omega, lkl.trans (Lk.scl jl (lk_canon vC.nd).symm), wyl, fun J26 s26 => ⟨true, rfl, iteF ?_⟩⟩
      exact ⟨⟨_, _, _, _, _, _, _, _, _, _, _, _, rfl⟩, hg.same s26⟩
end
end Fp

set_option Elab.async false
set_option linter.all false
set_option maxRecDepth 100000
set_option maxHeartbeats 0
namespace Fp
open PySem PySem.Spec PyProof.Rows L2
abbrev R : PySem.W.OpenRow := PySem.W.OpenLaw.row PySem.Challenge.rw_frontparts_k24_whole_level_ways
abbrev hk : PySem.W.Hook := He.hookX 5 fa fn [] [] ex
def ob (s : PySem.W.SharedT) : He.AlX := He.obsX 5 fa fn [] [] ex (HandSHeadRun.getT s)
theorem ob_eq (s : PySem.W.SharedT) : ob s = hk.obs s.abs := He.obsX_eq (HandSHeadRun.getT_eq s)
def loose : List PySem.Str := "__name__" :: "BagError" :: "BadBag" :: "UnlikeClocks" :: "NoNumber" :: "IsNothing" :: "NotLevel" :: "CLOCKS" :: "LETTERS" :: "is_integer" :: "is_from_to" :: "is_clock" :: "is_word" :: "INVERSES" :: "inverse" :: "rank_of" :: "first_word" :: "tidied" :: "scaled" :: "multiplied" :: "MOST_WORDS" :: "MOST_LETTERS" :: "Bag" :: "are_words" :: "is_short_word" :: "pairs_of" :: "bag_of" :: "table_of" :: "check_clocks" :: "check_something" :: "behind" :: "times" :: "length" :: "plain" :: "level_way" :: "check_level" :: "halved" :: "lines_of" :: "crossing_of" :: "_law_hand" :: "_law_draw" :: "_law_some" :: "_law_key" :: "_law_put_to" :: "_law_added" :: "_law_product" :: "_law_size" :: "_law_lead" :: "_law_inverse" :: "_law_plain" :: "_law_dict" :: "_law_clock" :: "_law_level" :: "_law_can_be_cut" :: "_law_is_way" :: []
theorem run_false (w0 : World) : (fun w => HandSHeadRun.RunEq R (PySem.W.view R.prog [60]) hk ob 20000 loose w) (w0.withFollow "special-get-raises" false) := by
  intro os
  kernel_rfl
theorem run_true (w0 : World) : (fun w => HandSHeadRun.RunEq R (PySem.W.view R.prog [60]) hk ob 20000 loose w) (w0.withFollow "special-get-raises" true) := by
  intro os
  kernel_rfl
theorem run (w : World) : HandSHeadRun.RunEq R (PySem.W.view R.prog [60]) hk ob 20000 loose w := PySem.W.byRow2 "special-get-raises" (P := fun w => HandSHeadRun.RunEq R (PySem.W.view R.prog [60]) hk ob 20000 loose w) run_false run_true w
theorem top_of {w : World} {h h' : Heap} {K : PySem.W.Frag} {mg : Str → Option Value} (X : K.In h) (G : h.Ns mainGlobals mg) (c : He.SaysX fa fn [] [] ex w h' K) : Top K mg := ⟨⟨h, X, G⟩, c.t.d, c.more⟩
end Fp

set_option Elab.async false
set_option linter.all false
set_option maxRecDepth 100000
set_option maxHeartbeats 8000000
open PySem PySem.W PySem.Calls PyProof.Rows
theorem PySem.Challenge.cw_frontparts_k24_whole_level_ways_holds : PySem.Challenge.rw_frontparts_k24_whole_level_ways.Holds := by
  w_on; o_law
  refine HandSHeadRun.head_any (r := OpenLaw.row PySem.Challenge.rw_frontparts_k24_whole_level_ways) (q := view (OpenLaw.row PySem.Challenge.rw_frontparts_k24_whole_level_ways).prog [60]) (H := Fp.hk) (ob := Fp.ob) (M := 20000) (loose := Fp.loose) (d := HandSHeadRun.topDef (OpenLaw.row PySem.Challenge.rw_frontparts_k24_whole_level_ways).prog 60) (kwd := []) Fp.ob_eq
    (by kernel_rfl) (fun s => by kernel_rfl) Fp.run (by kernel_rfl) (by kernel_rfl) (by kernel_rfl) (by rfl) (by first | assumption | decide +kernel) (by decide +kernel) ⟨rfl, rfl, rfl, rfl, rfl, by decide +kernel⟩ ?hw ?hc
  case hw => w_witness2
  case hc =>
    refine L2.walk_ofE (l := PySem.Challenge.rw_frontparts_k24_whole_level_ways) (n := 63) (k := 11) (x := "_law_script") (CX := L2.CX0) rfl (by decide) (by kernel_rfl) ⟨rfl, by decide, by decide⟩ ?F (fun _ _ _ _ z => z)
    intro w mg fa h Y G hmg0
    obtain ⟨K, KX, c⟩ := Y
    have hmg : mg ("law" : PySem.Str) = some (.ref fa) := by
      have e : (HandSHeadRun.topDef (OpenLaw.row PySem.Challenge.rw_frontparts_k24_whole_level_ways).prog 60).name = ("law" : PySem.Str) := by kernel_rfl
      rw [← e]
      exact hmg0
    have T := Fp.top_of KX G c
    obtain ⟨fd, F⟩ := Fp.fn_law T
    have e := hmg.symm.trans (Fp.g_law T)
    cases e
    have b := L2.FunD.bindsA (ps := ["_law_script"]) F fun _ _ _ _ _ _ us hl => match us, hl with | [_], _ => rfl
    exact ⟨K, fd, Fp.spLaw K, KX, fun s v => b s [v] rfl, fun H a ns hl _ hS => ⟨a, ns, rfl, hS, fun _ => rfl⟩, fun base _ _ => Fp.ok_law T F⟩
