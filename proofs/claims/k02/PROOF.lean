import PyProof.Rows.All
import Wide.All
import OpenK.AllK
import Wide.FinOn
import HandS.ForMost
import HandS.Evl
import HandS.Steps
import HandS.Wide
import HandS.IsInst
import HandS.Exc
import HandS.ExcOwn
import HandS.TryOnly
import HandS.WordsExc
import HandS.Defaults
import HandS.ExcSuper
import PyProof.ReprRoads
import PyProof.ReprLen
import PySem.Challenge.RW_imagetones_k02_tones_by_hand
set_option Elab.async false
set_option linter.all false
set_option maxRecDepth 100000
namespace HX
open PySem PySem.Spec PyProof.Rows L2

/-! ### defs whose callers are known to be no repr of anything (so repr's own guard is silent) -/
structure FnG (P : Program) (w : World) (K : PySem.W.Frag) (mg : Str → Option Value) (base : Heap) (CX : CXT) (k : Nat) (f : Addr) (fd : FuncData) (ps : List Str) (sp : Sp) : Prop where
  len : ∀ vs H Q E, sp vs H Q E → vs.length = ps.length
  run : ∀ (A : Around) (outer : List Env) (s : Shared) (H : Hp) (args : Args) (us : List Value) (vs : List V) (Q : VK) (E : XK),
    A.guards = some [] → Room k A → Env0 P w K mg base A outer s H → BindsTo s fd args (ps.zip us) → Vals vs us → sp vs H Q E →
      codeAny (model P w) A (.call (.ref f) args) (CR CX outer P w H s Q E) s

section
variable {P : Program} {w : World} {K : PySem.W.Frag} {mg : Str → Option Value} {base : Heap} {CX : CXT} {k j : Nat} {f : Addr} {fd : FuncData} {ps : List Str} {sp : Sp}
theorem FnG.of (F : FnOk P w K mg base CX k f fd ps sp) : FnG P w K mg base CX k f fd ps sp :=
  ⟨F.len, fun A outer s H args us vs Q E _ => F.run A outer s H args us vs Q E⟩
theorem FnG.mono (F : FnG P w K mg base CX j f fd ps sp) (h : j ≤ k) : FnG P w K mg base CX k f fd ps sp :=
  ⟨F.len, fun A outer s H args us vs Q E g r => F.run A outer s H args us vs Q E g (r.mono h)⟩

theorem okG {x qual : Str} {st : Stmt} {N : List Str} (F : Fun K x qual st f fd) (S : FnScope N ps (defScope st)) (len : ∀ vs H Q E, sp vs H Q E → vs.length = ps.length)
    (hbody : ∀ (cdv : Value) (A : Around) (outer : List Env) (s : Shared) (H : Hp) (vs : List V) (Q : VK) (E : XK), A.guards = some [] →
      Room k (A.deeper (envOfC qual (defScope st) s.heap.objs.size f cdv)) → sp vs H Q E →
      ∃ t, PSs (cxOf CX P w K mg base N qual (defScope st) f cdv A outer s H E) (defBody st) t ∧ t { nx := fun _ H' => Q .non H', rt := Q } (start N vs) H) :
    FnG P w K mg base CX (k + 1) f fd ps sp := by
  obtain ⟨oc, od, kV, doc, pm, an, cdv, ct, osl, rfl, lk, hcd⟩ := F.ex
  constructor
  · exact len
  intro A outer s H args us vs Q E hgd hr e0 hb r hsp
  have hl := len _ _ _ _ hsp
  have kept : ∀ b o, base.get? b = some o → s.heap.get? b = some o := fun b o e => (e0.bs b o e).1
  have KX : K.In s.heap := e0.mod.kin.keeps kept
  have lim : s.heap.NoLimit := e0.mod.nolimit.keeps kept
  have hkind : ∀ y ∈ ps.zip us, (defScope st).names.lookup y.1 = some .local ∨
      ((defScope st).names.lookup y.1 = some .cell ∧ ((cellsFrom (s.heap.objs.size + 1) (defScope st).names []).lookup y.1).isSome = true) := by
    rintro ⟨n, v⟩ hy
    rcases S.par n (List.of_mem_zip hy).1 with q | q
    · exact .inl q
    · exact .inr ⟨q, PySem.W.cellsFrom_some _ _ _ (.inl q)⟩
  apply codeAny_call_function hr.depth (KX _ _ lk) rfl S.co S.gen rfl (PySem.W.codeRec_of KX hcd)
  apply hb
  refine wpAny_newFunctionEnv_cells S.kind hkind fun env he s1 x => ?_
  subst he
  refine ⟨lim.keeps x.toInCall.keep, codeAny_func ?_⟩
  obtain ⟨t, ht, hq⟩ := hbody cdv A outer s H vs Q E hgd (hr.deeper _) hsp
  have I := inv_start (CX := CX) (E := E) S hr.hd e0 hl r x
  refine wpAny_mono (ht.run [] s1 (start N vs) H _ I hq) (fun fl s' hs => ?_) fun e s' hs => hs
  cases fl with
  | ret u => obtain ⟨v, σ', H', J, rv, q⟩ := hs; exact ⟨v, H', J.os, J.bare, J.base, J.hok, rv, q⟩
  | next => obtain ⟨σ', H', J, q⟩ := hs; exact ⟨V.non, H', J.os, J.bare, J.base, J.hok, rfl, q⟩
  | brk => obtain ⟨_, _, _, q⟩ := hs; exact q.elim
  | cont => obtain ⟨_, _, _, q⟩ := hs; exact q.elim
end

section
variable {X : Cx} {CX : CXT} {k : Nat} {f : Addr} {fd : FuncData} {ps : List Str} {sp : Sp} {dvs : List V} {ds : List Value} {E : XK} {x : Str} {p pos : Pos} {e : Expr} {es : List Expr} {t : TA}
theorem run_g {pins : List (Addr × Obj)} {σ : L2.St} {H : Hp} {s : Shared} {Q : VK} {us : List Value} {vs : List V} (F : FnG X.prog X.w X.K X.mg X.base CX k f fd ps sp) (hgd : X.A.guards = some []) (hr : Room k X.A)
    (hb : Binds X.K fd ps ds) (hd : Vals dvs ds) (hx : Passes CX X E) (I : Inv X pins σ H s) (r : Vals vs us) (h : sp (vs ++ dvs) H Q E) :
    wpAny (model X.prog X.w) X.A (call (.ref f) us) (EP X pins σ Q) X.xe s := by
  have r2 : Vals (vs ++ dvs) (us ++ ds) := r.append hd
  have hl : (us ++ ds).length = ps.length := r2.length.symm.trans (F.len _ _ _ _ h)
  apply wpAny_call
  refine codeAny_mono (F.run X.A X.stack s H ⟨us, []⟩ (us ++ ds) (vs ++ dvs) Q E hgd hr I.env0 (hb s us I.kIn hl) r2 h) ?_
  intro r s' hq
  match r, hq with
  | .error e, hq => exact hx pins σ H s e s' I hq
  | .ok (.ret u), hq => exact I.after hq

/-- f(e, ..) of such a def -/
theorem pe_callG (F : FnG X.prog X.w X.K X.mg X.base CX k f fd ps sp) (hgd : X.A.guards = some []) (hr : Room k X.A) (hg : Gl X x) (hm : X.mg x = some (.ref f)) (hk : PySem.W.keepIn X.K (.ref f) = true)
    (hb : Binds X.K fd ps ds) (hd : Vals dvs ds) (hx : Passes CX X E) (ha : PA X (e :: es) t) (hdb : (x == ("__debug__" : Str)) = false := by decide)
    (he : starEach (e :: es) X.env = (false, eval e X.env) :: starEach es X.env := by rfl) (hpl : (backTo pos (starEach es X.env)).any (·.1) = false := by rfl) :
    PE X (.Call (.Name x p) (e :: es) [] pos) (tCall sp dvs E t) := by
  constructor
  intro pins s σ H Q I h
  apply wpAny_Call_Name_kw
  refine ld_glob I hg hm ?_ hdb
  refine PySem.W.callWith_K (h₀ := X.base) I.ok.mod.kin hk ?_ he hpl
  refine thn (ha.run pos pins s σ H _ I h) ?_
  rintro us s1 ⟨vs, H1, I1, r, q⟩
  exact ⟨I1.kIn, run_g F hgd hr hb hd hx I1 r q⟩
end

/-! ### numbers -/
section
variable {X : Cx}
/-- ** of a base of at most b bits with a written exponent -/
def CPowW (i j : Int) : Prop := 0 ≤ j ∧ (Builtin.Int.intBits i : Int) * j ≤ 2 ^ 27
theorem op_powW : OpR X (binaryOp .Pow) (rI CPowW fun i j => .int (i ^ j.toNat)) := opI fun _ _ _ _ _ _ _ hc q => PyProof.Rows.pow_int hc.1 hc.2 q
end
theorem wide_pow {i j : Int} {b : Nat} (h : i.natAbs < 2 ^ b) (h0 : 0 ≤ j) (hb : ((b : Int) + 1) * j ≤ 2 ^ 27) : CPowW i j := by
  have hle : Builtin.Int.intBits i ≤ b + 1 := by
    unfold Builtin.Int.intBits
    split
    · omega
    · rename_i hz
      by_cases hb0 : b = 0
      · subst hb0
        have hz0 : i.natAbs = 0 := by simpa using h
        rw [hz0]
        decide
      · have hq : i.natAbs.log2 < b := PySem.Flt.log2_lt_of (Nat.pos_of_ne_zero hb0) h
        omega
  refine ⟨h0, Int.le_trans ?_ hb⟩
  exact Int.mul_le_mul_of_nonneg_right (by omega) h0
end HX

set_option Elab.async false
set_option linter.all false
set_option maxRecDepth 100000
namespace HX
open PySem PySem.Spec PyProof.Rows L2

/-! ### data at any depth that is tracked: none, bools, ints, texts, lists, tuples, the empty dict -/
mutual
inductive Dq (H : Hp) : V → PyData → Prop
  | non : Dq H .non .none
  | bl (b : Bool) : Dq H (.bl b) (.bool b)
  | int (i : Int) : Dq H (.int i) (.int i)
  | str (x : Str) : Dq H (.str x) (.str x)
  | lst {a : Addr} {xs : List V} {ds : List PyData} : Rd H a (.lst xs) → DqAll H xs ds → Dq H (.ref a) (.list ds)
  | tup {a : Addr} {xs : List V} {ds : List PyData} : Rd H a (.tup xs) → DqAll H xs ds → Dq H (.ref a) (.tuple ds)
  | dic {a : Addr} : H a = some (.dK []) → Dq H (.ref a) (.dict [])
inductive DqAll (H : Hp) : List V → List PyData → Prop
  | nil : DqAll H [] []
  | cons {v : V} {vs : List V} {d : PyData} {ds : List PyData} : Dq H v d → DqAll H vs ds → DqAll H (v :: vs) (d :: ds)
end

open Evl (Ex)
mutual
theorem Dq.ex {H H' : Hp} (e : Ex H H') : ∀ {v : V} {d : PyData}, Dq H v d → Dq H' v d
  | _, _, .non => .non
  | _, _, .bl b => .bl b
  | _, _, .int i => .int i
  | _, _, .str x => .str x
  | _, _, .lst h k => .lst (Evl.ex_rd e h) (DqAll.ex e k)
  | _, _, .tup h k => .tup (Evl.ex_rd e h) (DqAll.ex e k)
  | _, _, .dic h => .dic (e _ _ h)
theorem DqAll.ex {H H' : Hp} (e : Ex H H') : ∀ {vs : List V} {ds : List PyData}, DqAll H vs ds → DqAll H' vs ds
  | _, _, .nil => .nil
  | _, _, .cons h k => .cons (Dq.ex e h) (DqAll.ex e k)
end
theorem DqAll.len {H : Hp} : ∀ {vs : List V} {ds : List PyData}, DqAll H vs ds → vs.length = ds.length
  | _, _, .nil => rfl
  | _, _, .cons _ k => congrArg (· + 1) k.len
theorem DqAll.app {H : Hp} : ∀ {vs ws : List V} {ds es : List PyData}, DqAll H vs ds → DqAll H ws es → DqAll H (vs ++ ws) (ds ++ es)
  | _, _, _, _, .nil, k => k
  | _, _, _, _, .cons h t, k => .cons h (t.app k)
theorem DqAll.get {H : Hp} : ∀ {vs : List V} {ds : List PyData} {i : Nat} {v : V}, DqAll H vs ds → vs[i]? = some v → ∃ d, ds[i]? = some d ∧ Dq H v d
  | _, _, _, _, .nil, e => by simp at e
  | _, _, 0, _, .cons h _, e => by simp at e; subst e; exact ⟨_, rfl, h⟩
  | _, _, i + 1, v, .cons _ t, e => by
    obtain ⟨d, h1, h2⟩ := DqAll.get (i := i) (v := v) t (by simpa using e)
    exact ⟨d, by simpa using h1, h2⟩
theorem DqAll.one {H : Hp} {v : V} {d : PyData} (h : Dq H v d) : DqAll H [v] [d] := .cons h .nil
theorem DqAll.rep {H : Hp} {v : V} {d : PyData} (h : Dq H v d) : ∀ n, DqAll H (List.replicate n v) (List.replicate n d)
  | 0 => .nil
  | n + 1 => .cons h (DqAll.rep h n)
theorem DqAll.take {H : Hp} : ∀ {vs : List V} {ds : List PyData} (n : Nat), DqAll H vs ds → DqAll H (vs.take n) (ds.take n)
  | _, _, 0, _ => by simpa using DqAll.nil
  | _, _, _ + 1, .nil => by simpa using DqAll.nil
  | _, _, n + 1, .cons h t => by simpa using DqAll.cons h (t.take n)
theorem DqAll.drop {H : Hp} : ∀ {vs : List V} {ds : List PyData} (n : Nat), DqAll H vs ds → DqAll H (vs.drop n) (ds.drop n)
  | _, _, 0, k => by simpa using k
  | _, _, _ + 1, .nil => by simpa using DqAll.nil
  | _, _, n + 1, .cons h t => by simpa using t.drop n
/-- an object of data is none that changes: what changes is elsewhere -/
theorem dq_ne {H : Hp} {a : Addr} {o u : HO} (h : H a = some o) (k : Rd H a u) (d : o ≠ u) (f : ∀ ob, o ≠ .frz ob u) : False := by
  rcases k with k | ⟨ob, k⟩
  · exact d (Option.some.inj (h.symm.trans k))
  · exact f ob (Option.some.inj (h.symm.trans k))

mutual
theorem Dq.dp {K : PySem.W.Frag} {H : Hp} : ∀ {v : V} {d : PyData}, Dq H v d → d.hasDict = false → Dp K H v d
  | _, _, .non, _ => .non
  | _, _, .bl b, _ => .bl b
  | _, _, .int i, _ => .int i
  | _, _, .str x, _ => .str x
  | _, _, .lst h k, e => .lst (.inl h) (DqAll.dp k (by simpa [PyData.hasDict] using e))
  | _, _, .tup h k, e => .tup (.inl h) (DqAll.dp k (by simpa [PyData.hasDict] using e))
  | _, _, .dic h, e => by simp [PyData.hasDict] at e
theorem DqAll.dp {K : PySem.W.Frag} {H : Hp} : ∀ {vs : List V} {ds : List PyData}, DqAll H vs ds → PyData.hasDictAll ds = false → DpAll K H vs ds
  | _, _, .nil, _ => .nil
  | _, _, .cons h k, e => by
    simp only [PyData.hasDictAll, Bool.or_eq_false_iff] at e
    exact .cons (h.dp e.1) (k.dp e.2)
end

section
variable {X : Cx} {pins : List (Addr × Obj)} {σ : L2.St} {H : Hp} {s : Shared}
/-- an empty dict that is tracked, as the heap has it -/
theorem dic_at (I : Inv X pins σ H s) {a : Addr} (h : H a = some (.dK [])) : ∃ o n, s.heap.get? a = some o ∧ o.cls = .type "dict" ∧ o.data = .dict #[] n ∧ (a == sysModules) = false := by
  obtain ⟨_, hsys, vs, kv, o, es, ep, h1, h2, h3, h4⟩ := (show ObjOk X.prog X.w H s.heap a (.dK []) from I.hok a _ h)
  cases kv
  have he : es.toList = [] := List.length_eq_zero_iff.mp (by simpa using h4.2.1.length)
  have he2 : es = #[] := by cases es; simpa using he
  exact ⟨o, ep, h1, h2.1, by rw [← he2]; exact h3, hsys⟩
mutual
theorem Dq.rk (I : Inv X pins σ H s) : ∀ {d : PyData} {v : V} {u : Value}, Dq H v d → RelV v u → d.showable = true → d.shown.length ≤ sizeLine →
    ∃ as bs, Reads s.heap u d as ∧ ReadAtMost s.heap d.depth bs ∧ ReprK X.prog X.w bs s.heap d.depth u d.shown
  | _, _, _, .non, r, _, _ => by cases r; exact ⟨_, [], Reads.none, (fun _ h => nomatch h), by simp only [PyData.shown]; exact .of_is ReprIs.none _ _ _⟩
  | _, _, _, .bl b, r, _, _ => by cases r; exact ⟨_, [], Reads.bool b, (fun _ h => nomatch h), by simp only [PyData.shown]; exact .of_is (ReprIs.bool b) _ _ _⟩
  | _, _, _, .int i, r, hs, _ => by
    obtain ⟨t, rfl⟩ := r
    exact ⟨_, [], Reads.int i t, (fun _ h => nomatch h), by simp only [PyData.shown]; exact .of_is (ReprIs.int t (by simpa [PyData.showable] using hs)) _ _ _⟩
  | _, _, _, .str x, r, _, hz => by
    obtain ⟨t, rfl⟩ := r
    exact ⟨_, [], Reads.str x t, (fun _ h => nomatch h), by simp only [PyData.shown]; exact .of_is (ReprIs.str x t (by simpa only [PyData.shown] using hz)) _ _ _⟩
  | _, _, _, .lst (a := a) (ds := ds) hs ha, r, hw, hz => by
    cases r
    have hz' : (listText (PyData.shownAll ds)).length ≤ sizeLine := by simpa only [PyData.shown] using hz
    obtain ⟨its, rv, ⟨o, n, ho, hc, _, hd⟩, _⟩ := I.list (X := X) (Or.inl hs)
    obtain ⟨as, bs, hr, hb, hk⟩ := DqAll.rk I ha rv (by simpa [PyData.showable] using hw) (fun t ht => Nat.le_trans (listText_mem_le ht) hz')
    have r : Reads s.heap (.ref a) (.list ds) _ := .list ho hc hd (by simpa using hr)
    have hna : a ∉ bs := not_mem_of_deeper r (by simp only [PyData.depth]; omega) hb
    refine ⟨_, a :: bs, r, ReadAtMost.cons r (by simp only [PyData.depth]; omega) hb, ?_⟩
    simp only [PyData.depth, PyData.shown]
    cases its with
    | nil =>
      cases hr
      simp only [PyData.shownAll, listText_nil]
      exact ReprK.listEmpty ho hc hd
    | cons x l => exact ReprK.list ho hc hd hna (by simpa using hk.length_eq) (fun i y e => hk.item i y (by simpa using e))
  | _, _, _, .tup (a := a) (ds := ds) hs ha, r, hw, hz => by
    cases r
    have hz' : (tupleText (PyData.shownAll ds)).length ≤ sizeLine := by simpa only [PyData.shown] using hz
    obtain ⟨its, rv, ⟨o, ho, hc, n, hd⟩, _⟩ := I.tuple (X := X) (Or.inl hs)
    obtain ⟨as, bs, hr, hb, hk⟩ := DqAll.rk I ha rv (by simpa [PyData.showable] using hw) (fun t ht => Nat.le_trans (tupleText_mem_le ht) hz')
    have r : Reads s.heap (.ref a) (.tuple ds) _ := .tuple ho hc hd (by simpa using hr)
    have hna : a ∉ bs := not_mem_of_deeper r (by simp only [PyData.depth]; omega) hb
    refine ⟨_, a :: bs, r, ReadAtMost.cons r (by simp only [PyData.depth]; omega) hb, ?_⟩
    simp only [PyData.depth, PyData.shown]
    exact ReprK.tuple ho hc hd hna (by simpa using hk)
  | _, _, _, .dic (a := a) ha, r, _, _ => by
    cases r
    obtain ⟨o, n, ho, hc, hd, hsys⟩ := dic_at I ha
    have r : Reads s.heap (.ref a) (.dict []) _ := .dict (kvs := []) ho hc hd .nil .nil
    refine ⟨_, [a], r, ReadAtMost.cons r (Nat.le_refl _) (fun _ h => nomatch h), ?_⟩
    simp only [PyData.depth, PyData.shown, PyData.shownKv]
    exact ReprK.dict ho hc hd hsys (by simp) .nil
theorem DqAll.rk (I : Inv X pins σ H s) : ∀ {ds : List PyData} {vs : List V} {us : List Value}, DqAll H vs ds → Vals vs us → PyData.showableAll ds = true → (∀ t ∈ PyData.shownAll ds, t.length ≤ sizeLine) →
    ∃ as bs, ReadsAll s.heap us ds as ∧ ReadAtMost s.heap (PyData.depthAll ds) bs ∧ ReprAllK X.prog X.w bs s.heap (PyData.depthAll ds) us (PyData.shownAll ds)
  | _, _, _, .nil, r, _, _ => by cases r; exact ⟨_, [], ReadsAll.nil, (fun _ h => nomatch h), by simp only [PyData.shownAll]; exact .nil⟩
  | _, _, _, .cons (d := d) (ds := ds) h1 h2, r, hw, hz => by
    cases r with
    | cons r1 r2 =>
      have hw' : d.showable = true ∧ PyData.showableAll ds = true := by simpa [PyData.showableAll] using hw
      obtain ⟨as, b1, q1, z1, k1⟩ := Dq.rk I h1 r1 hw'.1 (hz _ (by simp only [PyData.shownAll]; exact List.mem_cons_self))
      obtain ⟨cs, b2, q2, z2, k2⟩ := DqAll.rk I h2 r2 hw'.2 (fun t ht => hz t (by simp only [PyData.shownAll]; exact List.mem_cons_of_mem _ ht))
      refine ⟨_, b1 ++ b2, ReadsAll.cons q1 q2, ?_, ?_⟩
      · simp only [PyData.depthAll]
        exact (z1.mono (Nat.le_max_left _ _)).append (z2.mono (Nat.le_max_right _ _))
      · simp only [PyData.depthAll, PyData.shownAll]
        exact .cons ((k1.more fun b hb => List.mem_append_left _ hb).level_le (Nat.le_max_left _ _)) (k2.more_le (fun b hb => List.mem_append_right _ hb) (Nat.le_max_right _ _))
end
end

/-! ### repr of data -/
/-- what is asked of data that is shown: its ints are no giants, its text is not too long, it is not too deep -/
def Shw (d : PyData) : Prop := d.showable = true ∧ d.shown.length ≤ sizeLine ∧ d.depth ≤ 60
def rRepr : List V → Hp → VK → Prop := fun xs H Q => ∃ x d, xs = [x] ∧ Dq H x d ∧ Shw d ∧ Q (.str d.shown) H
section
variable {X : Cx}
theorem call_repr (hgd : X.A.guards = some []) (hu : X.A.units + 64 < cLine) : CallR X (.builtin "repr") rRepr := by
  intro pins s σ H xs us Q I r h
  obtain ⟨x, d, rfl, hd, ⟨hs, hz, hdp⟩, q⟩ := h
  obtain ⟨u, rfl, rx⟩ := vals1 r
  have fin : ∀ (h' : Heap) (u : Tok) (tk : Nat), (∀ b o, s.heap.get? b = some o → h'.get? b = some o) → EP X pins σ Q (.str d.shown u) { s with heap := h', toks := tk } :=
    fun h' u tk hk => ⟨.str d.shown, H, I.kept hk, ⟨_, rfl⟩, q⟩
  cases hd with
  | non => cases rx; exact PySem.P.repr_of_none (by simpa [PyData.shown] using fin s.heap _ _ fun _ _ e => e)
  | bl b => cases rx; exact PySem.P.repr_of_bool (by simpa [PyData.shown] using fin s.heap _ _ fun _ _ e => e)
  | int i => obtain ⟨t, rfl⟩ := rx; exact PySem.P.repr_of_int (by simpa [PyData.showable] using hs) (by simpa [PyData.shown] using fin s.heap _ _ fun _ _ e => e)
  | str y => obtain ⟨t, rfl⟩ := rx; exact PySem.P.repr_of_str (by simpa [PyData.shown] using fin s.heap _ _ fun _ _ e => e) (by simpa [PyData.shown] using hz)
  | lst h1 h2 =>
    rename_i a xs ds
    cases rx
    have hz' : (listText (PyData.shownAll ds)).length ≤ sizeLine := by simpa only [PyData.shown] using hz
    obtain ⟨its, rv, ⟨o, n, ho, hc, _, hd⟩, _⟩ := I.list (X := X) (Or.inl h1)
    obtain ⟨as, bs, hr, hb, hk⟩ := DqAll.rk I h2 rv (by simpa [PyData.showable] using hs) (fun t ht => Nat.le_trans (listText_mem_le ht) hz')
    have hna : a ∉ bs := not_mem_of_deeper (.list ho hc hd (by simpa using hr)) (by simp only [PyData.depth]; omega) hb
    simp only [PyData.depth] at hdp
    simp only [PyData.shown] at fin
    refine call_repr_slot (by omega) ⟨o, ho, hc⟩ F.slot_list_repr.toG ?_
    cases its with
    | nil =>
      cases hr
      simp only [PyData.shownAll, listText_nil] at fin
      exact call_list_repr_empty ⟨o, ho, hc⟩ ho hd ⟨_, _, rfl, fin s.heap _ _ fun _ _ e => e⟩
    | cons x l =>
      exact call_list_reprK ho hc hd hna (by simpa using hk.length_eq) (fun i y e => hk.item i y (by simpa using e)) hgd (fun b _ => Clear.nil b) (by show X.A.units + 1 + _ < cLine; omega) (fun _ _ e => e)
        (fun h' u tk hk => ⟨_, _, rfl, fin h' u tk hk⟩) hz'
  | tup h1 h2 =>
    rename_i a xs ds
    cases rx
    have hz' : (tupleText (PyData.shownAll ds)).length ≤ sizeLine := by simpa only [PyData.shown] using hz
    obtain ⟨its, rv, ⟨o, ho, hc, n, hd⟩, _⟩ := I.tuple (X := X) (Or.inl h1)
    obtain ⟨as, bs, hr, hb, hk⟩ := DqAll.rk I h2 rv (by simpa [PyData.showable] using hs) (fun t ht => Nat.le_trans (tupleText_mem_le ht) hz')
    have hna : a ∉ bs := not_mem_of_deeper (.tuple ho hc hd (by simpa using hr)) (by simp only [PyData.depth]; omega) hb
    simp only [PyData.depth] at hdp
    simp only [PyData.shown] at fin
    exact call_repr_slot (by omega) ⟨o, ho, hc⟩ F.slot_tuple_repr
      (call_tuple_reprK ho hc hd hna (by simpa using hk) hgd (fun b _ => Clear.nil b) (by show X.A.units + 1 + _ < cLine; omega) (fun _ _ e => e) (fun h' u tk hk => ⟨_, _, rfl, fin h' u tk hk⟩) hz')
  | dic h1 =>
    cases rx
    obtain ⟨o, n, ho, hc, hd, hsys⟩ := dic_at I h1
    simp only [PyData.shown, PyData.shownKv] at fin hz
    exact call_repr_slot (by omega) ⟨o, ho, hc⟩ F.slot_dict_repr
      (call_dict_reprK (as := []) (d := 0) ho hc hd hsys (by simp) .nil hgd (fun b _ => Clear.nil b) (by show X.A.units + 1 + _ < cLine; omega) (fun _ _ e => e) (fun h' u tk hk => ⟨_, _, rfl, fin h' u tk hk⟩) hz)
end
end HX

set_option Elab.async false
set_option linter.all false
set_option maxRecDepth 100000
namespace HX
open PySem PySem.Spec PyProof.Rows L2

/-! ### the end of a law whose def is an FnG -/
section
variable {P : Program} {w : World} {K : PySem.W.Frag} {mg mb : Str → Option Value} {k : Nat} {fa a : Addr} {fd : FuncData} {x : Str} {sp : Sp} {s₁ : Shared} {vs : List Value} {ns : List Int}
/-- what is wanted of the law's call -/
def LawEnd (s₁ : Shared) : Result → Shared → Prop := fun r s' => r = .ok (.ret (.bool true)) ∧ OldK s₁.heap s'.heap ∧ s'.os = s₁.os ∧ AllBare s'.gens
/-- the tracked heap at the start: the script, or nothing -/
theorem law_from (KX : K.In s₁.heap) (hns : s₁.heap.Ns mainGlobals mg) (hb : s₁.heap.Ns builtinsNs mb) (hbb : ∀ x : Str, x ≠ "__name__" → mb x = bootBuiltins x) (hlim : s₁.heap.NoLimit) (hg : s₁.gens = #[])
    (hr : Room k callerA) (FF : ∀ base : Heap, K.In base → base.Ns mainGlobals mg → FnG P w K mg base CX0 k fa fd [x] sp) (hbind : ∀ (s : Shared) (u : Value), BindsTo s fd ⟨[u], []⟩ [(x, u)])
    (hsp : ∀ H : Hp, Only H → SqL K H a (ns.map V.int) → sp [.ref a] H (fun v _ => v = .bl true) fun _ _ _ => False)
    (H : Hp) (hO : Only H) (hS : SqL K H a (ns.map V.int)) (hok : HOk P w H s₁.heap) (hn : ∀ b o, s₁.heap.get? b = some o → H b ≠ none → o.cls = .type "list" ∧ ∃ its n, o.data = .seq its n) (hK : ∀ b o, K.lookup b = some o → H b = none) :
    codeAny (model P w) callerA (.call (.ref fa) ⟨[.ref a], []⟩) (LawEnd s₁) s₁ := by
  have up : ∀ {b : Addr} {m : Str → Option Value}, s₁.heap.Ns b m → (hidT s₁.heap H).Ns b m := by
    rintro b m ⟨o, es, ep, e, d, r⟩
    have hb0 : H b = none := by
      cases q : H b with
      | none => rfl
      | some u =>
        obtain ⟨_, its, n, z⟩ := hn b o e (by rw [q]; simp)
        rw [d] at z; cases z
    exact ⟨o, es, ep, hidT_get e hb0, d, r⟩
  have hKb : K.In (hidT s₁.heap H) := fun b o e => hidT_get (KX b o e) (hK b o e)
  obtain ⟨mc, l1, l2⟩ := hlim
  have hM : Mod K mg (hidT s₁.heap H) := ⟨hKb, up hns, ⟨mb, up hb, hbb⟩, mc, up l1, l2⟩
  have e0 : Env0 P w K mg (hidT s₁.heap H) callerA [] s₁ H :=
    { frames := rfl, mod := hM, bs := fun b o e => of_hidT e, bsz := Nat.le_of_eq (hidT_size _ _), funs := trivial, frf := fun b z => absurd (show b ∈ ([] : List Addr) from z) (by simp), hok := hok, bare := .of_eq hg }
  refine codeAny_mono ((FF _ hKb (up hns)).run callerA [] s₁ H ⟨[.ref a], []⟩ [.ref a] [.ref a] _ _ rfl hr e0 (hbind s₁ (.ref a)) (.cons rfl .nil) (hsp H hO hS)) ?_
  intro r s' h
  match r, h with
  | .error e, h => exact h.elim
  | .ok (.ret u), ⟨v, H', os, bare, un, hok', r', q⟩ =>
    have q' : v = .bl true := q
    subst q'
    cases (show u = Value.bool true from r')
    refine ⟨rfl, OldK.of_keep fun b o e => ?_, os, bare⟩
    rcases hO b with z | ⟨ob, xs, z⟩
    · exact un.keep b o e z (fun m => absurd (show b ∈ ([] : List Addr) from m) (by simp)) (by simp)
    · obtain ⟨e1, _⟩ := hok b _ z
      obtain ⟨e2, _⟩ := hok' b _ (un.frzs b ob _ z)
      rw [e] at e1; cases e1
      exact e2
theorem law_callG (KX : K.In s₁.heap) (hns : s₁.heap.Ns mainGlobals mg) (hb : s₁.heap.Ns builtinsNs mb) (hbb : ∀ x : Str, x ≠ "__name__" → mb x = bootBuiltins x) (hlim : s₁.heap.NoLimit) (hg : s₁.gens = #[])
    (ha : s₁.heap.get? a = some { cls := .type "list", data := .seq vs.toArray }) (hi : IntsAre vs ns) (hl : ns.length ≤ sizeLine)
    (hr : Room k callerA) (FF : ∀ base : Heap, K.In base → base.Ns mainGlobals mg → FnG P w K mg base CX0 k fa fd [x] sp) (hbind : ∀ (s : Shared) (u : Value), BindsTo s fd ⟨[u], []⟩ [(x, u)])
    (hsp : ∀ H : Hp, Only H → SqL K H a (ns.map V.int) → sp [.ref a] H (fun v _ => v = .bl true) fun _ _ _ => False) :
    codeAny (model P w) callerA (.call (.ref fa) ⟨[.ref a], []⟩) (LawEnd s₁) s₁ := by
  have rv := vals_ints hi
  have lenV := hi.length
  cases hk : K.lookup a with
  | some o =>
    have e := KX a o hk
    rw [ha] at e
    cases e
    have hS : SqL K (fun _ => none) a (ns.map V.int) := .inr ⟨_, vs.toArray, _, hk, rfl, rfl, rfl, by rw [List.size_toArray, lenV]; exact hl, by simpa using rv⟩
    exact law_from KX hns hb hbb hlim hg hr FF hbind hsp (fun _ => none) (fun _ => .inl rfl) hS (fun b u z => nomatch z) (fun b o _ z => absurd rfl z) (fun _ _ _ => rfl)
  | none =>
    let H : Hp := fun b => if b = a then some (.frz { cls := .type "list", data := .seq vs.toArray } (.lst (ns.map V.int))) else none
    have Ha : H a = some (.frz { cls := .type "list", data := .seq vs.toArray } (.lst (ns.map V.int))) := if_pos rfl
    have Hn : ∀ b, b ≠ a → H b = none := fun b z => if_neg z
    refine law_from KX hns hb hbb hlim hg hr FF hbind hsp H (fun b => ?_) (.inl (.inr ⟨_, Ha⟩)) (fun b u z => ?_) (fun b o e z => ?_) (fun b o e => ?_)
    · by_cases hb : b = a
      · subst hb; exact .inr ⟨_, _, Ha⟩
      · exact .inl (Hn b hb)
    · by_cases hb : b = a
      · subst hb
        rw [Ha] at z
        cases z
        exact ⟨ha, by rw [List.length_map]; exact hl, vs, _, rv, ha⟩
      · rw [Hn b hb] at z
        cases z
    · by_cases hb : b = a
      · subst hb
        rw [ha] at e
        cases e
        exact ⟨rfl, _, _, rfl⟩
      · exact absurd (Hn b hb) z
    · refine Hn b fun z => ?_
      subst z
      rw [hk] at e
      cases e
end
/-- as walk_ofK of the layer, for an FnG -/
theorem walk_G {l : PySem.W.OpenLaw} {n k : Nat} {q : Program} {loose : List Str} {XP : (Str → Option Value) → Heap → Prop} {YP : World → Heap → Prop} {d : DefRec} {K : Params → PySem.W.Frag} {sp : PySem.W.Frag → Sp} {x : Str}
    (hn : l.most = some n) (hn2 : n ≤ sizeLine) (hdf : d.params.defaults = []) (hr : Room k callerA) (hY : ∀ (w : World) (h : Heap), YP w h → (K w.params).In h)
    (FF : ∀ (w : World) (mg : Str → Option Value) (fa : Addr) (h : Heap), (K w.params).In h → h.Ns mainGlobals mg → mg d.name = some (.ref fa) →
      ∃ fd : FuncData, (∀ (s : Shared) (u : Value), BindsTo s fd ⟨[u], []⟩ [(x, u)]) ∧ ∀ base : Heap, (K w.params).In base → base.Ns mainGlobals mg → FnG l.prog w (K w.params) mg base CX0 k fa fd [x] (sp (K w.params)))
    (hsp : ∀ (K : PySem.W.Frag) (H : Hp) (a : Addr) (ns : List Int), ns.length ≤ n → Only H → SqL K H a (ns.map V.int) → sp K [.ref a] H (fun v _ => v = .bl true) fun _ _ _ => False) :
    PySem.W.WalkO q loose XP YP l.row.toRowW d [] (fun f vs => PySem.call f vs) := by
  refine Att.attach_call hn hdf fun w s₀ s₁ mg mb fa o pm cd doc a vs ns G Y ho hd hcd hmg hobj hints hlen hg => ?_
  obtain ⟨fd, hb, hF⟩ := FF w mg fa _ (hY w _ Y) G.T.g hmg
  exact law_callG (hY w _ Y) G.T.g G.T.b G.T.builtins G.T.nolimit hg hobj hints (Nat.le_trans hlen hn2) hr hF hb (fun H hO hS => hsp _ H a ns hlen hO hS)
end HX

set_option Elab.async false
set_option linter.all false
set_option maxRecDepth 100000
namespace HX
open PySem PySem.Spec PyProof.Rows L2
open Evl (Ex)

/-! ### a def of the module, called by its name -/
def Has (P : Program) (w : World) (K : PySem.W.Frag) (mg : Str → Option Value) (base : Heap) (k : Nat) (x : Str) (sp : Sp) : Prop :=
  ∃ (f : Addr) (fd : FuncData) (ps : List Str), FnOk P w K mg base CX0 k f fd ps sp ∧ mg x = some (.ref f) ∧ PySem.W.keepIn K (.ref f) = true ∧ Binds K fd ps []
def HasG (P : Program) (w : World) (K : PySem.W.Frag) (mg : Str → Option Value) (base : Heap) (k : Nat) (x : Str) (sp : Sp) : Prop :=
  ∃ (f : Addr) (fd : FuncData) (ps : List Str), FnG P w K mg base CX0 k f fd ps sp ∧ mg x = some (.ref f) ∧ PySem.W.keepIn K (.ref f) = true ∧ Binds K fd ps []
section
variable {X : Cx} {k n : Nat} {sp : Sp} {x : Str} {p pos : Pos} {e : Expr} {es : List Expr} {t : TA}
theorem pe_hs (h : Has X.prog X.w X.K X.mg X.base k x sp) (hr : Room n X.A) (hg : Gl X x) (ha : PA X (e :: es) t) (hkn : k ≤ n := by decide) (hdb : (x == ("__debug__" : Str)) = false := by decide)
    (he : starEach (e :: es) X.env = (false, eval e X.env) :: starEach es X.env := by rfl) (hpl : (backTo pos (starEach es X.env)).any (·.1) = false := by rfl) :
    PE X (.Call (.Name x p) (e :: es) [] pos) (tCall sp [] E0 t) := by
  obtain ⟨f, fd, ps, F, hm, hk, hb⟩ := h
  exact pe_call F (hr.mono hkn) hg hm hk hb .nil pass0 ha hdb he hpl
theorem pe_hsG (h : HasG X.prog X.w X.K X.mg X.base k x sp) (hgd : X.A.guards = some []) (hr : Room n X.A) (hg : Gl X x) (ha : PA X (e :: es) t) (hkn : k ≤ n := by decide) (hdb : (x == ("__debug__" : Str)) = false := by decide)
    (he : starEach (e :: es) X.env = (false, eval e X.env) :: starEach es X.env := by rfl) (hpl : (backTo pos (starEach es X.env)).any (·.1) = false := by rfl) :
    PE X (.Call (.Name x p) (e :: es) [] pos) (tCall sp [] E0 t) := by
  obtain ⟨f, fd, ps, F, hm, hk, hb⟩ := h
  exact pe_callG F hgd (hr.mono hkn) hg hm hk hb .nil pass0 ha hdb he hpl
end

/-! ### objects that turn (a jar, a list that grows), all else stands -/
def hid (S : List Addr) (H : Hp) : Hp := fun b => if b ∈ S then none else H b
theorem hid_ne {S : List Addr} {b : Addr} {H : Hp} (h : b ∉ S) : hid S H b = H b := if_neg h
theorem hid_upd {S : List Addr} {j : Addr} {H : Hp} {o : HO} (hj : j ∈ S) : hid S (upd H j o) = hid S H := by
  funext b
  unfold hid
  by_cases h : b ∈ S
  · rw [if_pos h, if_pos h]
  · rw [if_neg h, if_neg h, upd_ne (fun z => h (by rw [z]; exact hj))]
theorem hid_some {S : List Addr} {H : Hp} {b : Addr} {o : HO} (e : hid S H b = some o) : b ∉ S ∧ H b = some o := by
  unfold hid at e
  by_cases h : b ∈ S
  · rw [if_pos h] at e; cases e
  · rw [if_neg h] at e; exact ⟨h, e⟩
theorem hid_ex {S : List Addr} {H : Hp} : Ex (hid S H) H := fun b o e => (hid_some e).2
theorem hid_sub {S T : List Addr} {H : Hp} (h : ∀ b, b ∈ T → b ∈ S) : Ex (hid S H) (hid T H) := fun b o e => by
  obtain ⟨h1, h2⟩ := hid_some e
  rw [hid_ne fun z => h1 (h b z)]
  exact h2
theorem hid_free {S : List Addr} {p : Addr} {H : Hp} (h : H p = none) : hid S H p = none := by
  unfold hid
  split
  · rfl
  · exact h
/-- a step that may turn the objects of S and lays new ones -/
abbrev Jx (S : List Addr) (H H' : Hp) : Prop := Ex (hid S H) (hid S H')
theorem Jx.of {S : List Addr} {H H' : Hp} (e : Ex H H') : Jx S H H' := fun b o q => by
  obtain ⟨h1, h2⟩ := hid_some q
  rw [hid_ne h1]
  exact e b o h2
theorem Jx.upd {S : List Addr} {j : Addr} {H : Hp} {o : HO} (hj : j ∈ S) : Jx S H (upd H j o) := by
  show Ex (hid S H) (hid S (L2.upd H j o))
  rw [hid_upd hj]
  exact Ex.refl _
theorem Jx.refl {S : List Addr} (H : Hp) : Jx S H H := Ex.refl _
theorem Jx.tr {S : List Addr} {H H1 H2 : Hp} (a : Jx S H H1) (b : Jx S H1 H2) : Jx S H H2 := Ex.trans a b
theorem Jx.new {S : List Addr} {p : Addr} {H : Hp} {o : HO} (h : H p = none) : Jx S H (L2.upd H p o) := Jx.of (Ex.new h)
/-- hiding more -/
theorem Jx.more {S T : List Addr} {H H' : Hp} (e : Jx S H H') (h : ∀ b, b ∈ S → b ∈ T) : Jx T H H' := fun b o q => by
  obtain ⟨h1, h2⟩ := hid_some q
  have := e b o (by rw [hid_ne fun z => h1 (h b z)]; exact h2)
  rw [hid_ne h1]
  exact (hid_some this).2
/-- what was not there need not be hidden -/
theorem Jx.less {S : List Addr} {l : Addr} {H H' : Hp} (e : Jx (l :: S) H H') (h : H l = none) : Jx S H H' := fun b o q => by
  obtain ⟨h1, h2⟩ := hid_some q
  have hb : b ∉ l :: S := fun z => by
    rcases List.mem_cons.mp z with rfl | z
    · rw [h] at h2; cases h2
    · exact h1 z
  have := e b o (by rw [hid_ne hb]; exact h2)
  rw [hid_ne h1]
  exact (hid_some this).2
theorem Jx.get {S : List Addr} {p : Addr} {H H' : Hp} {o : HO} (e : Jx S H H') (h : H p = some o) (hp : p ∉ S) : H' p = some o :=
  (hid_some (e p o (by rw [hid_ne hp]; exact h))).2
theorem Jx.dq {S : List Addr} {H H' : Hp} {v : V} {d : PyData} (e : Jx S H H') (h : Dq (hid S H) v d) : Dq (hid S H') v d := h.ex e
theorem Jx.dqa {S : List Addr} {H H' : Hp} {v : List V} {d : List PyData} (e : Jx S H H') (h : DqAll (hid S H) v d) : DqAll (hid S H') v d := h.ex e
theorem fresh_ne {H : Hp} {p q : Addr} {o : HO} (h : H q = some o) (hp : H p = none) : p ≠ q := fun z => by rw [z, h] at hp; cases hp
theorem nin1 {p j : Addr} (h : p ≠ j) : p ∉ [j] := by simp [h]
theorem nin2 {p l j : Addr} (h1 : p ≠ l) (h2 : p ≠ j) : p ∉ [l, j] := by simp [h1, h2]

end HX

namespace HX
open PySem PySem.Spec PyProof.Rows L2
open Evl (Ex)
/-! ### pieces of readings, to be applied one by one -/
section
variable {K : PySem.W.Frag} {H : Hp} {Q : VK} {j : Addr} {xs : List V} {i : Int} {v : V} {σ : L2.St}
theorem go_ixL (hj : Rd H j (.lst xs)) (hi : atI xs i = some v) (q : Q v H) : rIxL K (.ref j) (.int i) H Q := ⟨j, xs, i, v, rfl, rfl, .inl hj, hi, q⟩
theorem go_ixT (hj : Rd H j (.tup xs)) (hi : atI xs i = some v) (q : Q v H) : rIxT K (.ref j) (.int i) H Q := ⟨j, xs, i, v, rfl, rfl, .inl hj, hi, q⟩
theorem go_ixL' (hj : SqL K H j xs) (hi : atI xs i = some v) (q : Q v H) : rIxL K (.ref j) (.int i) H Q := ⟨j, xs, i, v, rfl, rfl, hj, hi, q⟩
theorem go_ixT' (hj : SqT K H j xs) (hi : atI xs i = some v) (q : Q v H) : rIxT K (.ref j) (.int i) H Q := ⟨j, xs, i, v, rfl, rfl, hj, hi, q⟩
theorem go_setL {n : Nat} {q : Hp → Prop} (hj : H j = some (.lst xs)) (hi : ixN xs.length i = some n) (k : q (upd H j (.lst (xs.set n v)))) : rSetL (.ref j) (.int i) v H q := ⟨j, xs, i, n, rfl, rfl, hj, hi, k⟩
/-- a value is handed on, told by what holds of it -/
theorem cut_e {te : TE} (R : V → Hp → Prop) (h : ∀ Q' : VK, (∀ v H', R v H' → Q' v H') → te σ H Q') (k : ∀ v H', R v H' → Q v H') : te σ H Q := h Q k
/-- a statement, then the rest -/
theorem cut_s {t u : TS} {D : Ends} (M : L2.St → Hp → Prop) (h : ∀ D' : Ends, D'.rt = D.rt → D'.bk = D.bk → D'.ct = D.ct → (∀ σ' H', M σ' H' → D'.nx σ' H') → t D' σ H) (k : ∀ σ' H', M σ' H' → u D σ' H') : tSeq t u D σ H :=
  h { D with nx := u D } rfl rfl rfl k
end
end HX

set_option Elab.async false
set_option linter.all false
set_option maxRecDepth 100000
namespace HX
open PySem PySem.Spec PyProof.Rows L2
open Evl (Ex)
/-! ### the connectives of readings, opened one by one -/
section
variable {K : PySem.W.Frag} {H : Hp} {Q : VK} {QA : List V → Hp → Prop} {QT : Bool → Hp → Prop} {QS : L2.St → Hp → Prop} {v x y : V} {σ : L2.St} {ta tb te tc : TE} {t u : TT} {tr : TA} {D : Ends} {t1 t2 : TS} {g : TG} {i j : Nat} {r r' : R2} {a b : Int} {c : Bool}
theorem go_var (h : σ[i]? = some (some v)) (q : Q v H) : tVar i σ H Q := ⟨v, h, q⟩
theorem go_c (q : Q v H) : tC v σ H Q := q
theorem go_op (h : ta σ H fun x H1 => tb σ H1 fun y H2 => r x y H2 Q) : tOp r ta tb σ H Q := h
theorem go_un {r : V → Hp → VK → Prop} (h : ta σ H fun x H1 => r x H1 Q) : tUn r ta σ H Q := h
theorem go_if (h : t σ H fun c H1 => if c = true then ta σ H1 Q else tb σ H1 Q) : tIf t ta tb σ H Q := h
theorem go_test (h : te σ H fun x H' => ∃ k, x = .bl k ∧ QT k H') : tTest te σ H QT := h
theorem go_B (h : te σ H fun x H1 => ∃ c, x = .bl c ∧ QT c H1) : tB te σ H QT := h
theorem go_bl (q : QT c H) : ∃ k, V.bl c = V.bl k ∧ QT k H := ⟨c, rfl, q⟩
theorem go_not (h : t σ H fun c H1 => QT (!c) H1) : tNot t σ H QT := h
theorem go_and (h : t σ H fun c H1 => if c = true then u σ H1 QT else QT false H1) : tAnd t u σ H QT := h
theorem go_or (h : t σ H fun c H1 => if c = true then QT true H1 else u σ H1 QT) : tOr t u σ H QT := h
theorem go_andV (h : ta σ H fun x H1 => ∃ c, x = .bl c ∧ if c = true then tb σ H1 Q else Q (.bl false) H1) : tAndV ta tb σ H Q := h
theorem go_orV (h : ta σ H fun x H1 => ∃ c, x = .bl c ∧ if c = true then Q (.bl true) H1 else tb σ H1 Q) : tOrV ta tb σ H Q := h
theorem go_notV (h : ta σ H fun x H1 => ∃ c, x = .bl c ∧ Q (.bl (!c)) H1) : tNotV ta σ H Q := h
theorem go_chain (h : ta σ H fun x H1 => tb σ H1 fun y H2 => r x y H2 fun z H3 => ∃ k, z = .bl k ∧ (if k = true then tc σ H3 fun w' H4 => r' y w' H4 Q else Q (.bl false) H3)) : tChain r r' ta tb tc σ H Q := h
theorem go_nil (q : QA [] H) : tNil σ H QA := q
theorem go_cons (h : ta σ H fun x H1 => tr σ H1 fun xs H2 => QA (x :: xs) H2) : tCons ta tr σ H QA := h
theorem go_cb {rc : List V → Hp → VK → Prop} (h : tr σ H fun vs H1 => rc vs H1 Q) : tCB rc tr σ H Q := h
theorem go_call {sp : Sp} {dvs : List V} {E : XK} (h : tr σ H fun vs H1 => sp (vs ++ dvs) H1 Q E) : tCall sp dvs E tr σ H Q := h
theorem go_tup (h : tr σ H fun xs H1 => xs.length ≤ sizeLine ∧ ∀ p, H1 p = none → Q (.ref p) (upd H1 p (.tup xs))) : tTup tr σ H Q := h
theorem go_lst (h : tr σ H fun xs H1 => xs.length ≤ sizeLine ∧ ∀ p, H1 p = none → Q (.ref p) (upd H1 p (.lst xs))) : tLst tr σ H Q := h
theorem go_asg (h : te σ H fun x H1 => g x σ H1 D.nx) : tAsg te g D σ H := h
theorem go_name (h : QS (σ.set i (some v)) H) : gName i v σ H QS := h
theorem go_sub {to ti : TE} {ts : TSet} (h : to σ H fun o H1 => ti σ H1 fun i H2 => ts o i v H2 fun H3 => QS σ H3) : gSub to ti ts v σ H QS := h
theorem go_seq (h : t1 { D with nx := t2 D } σ H) : tSeq t1 t2 D σ H := h
theorem go_ret (h : te σ H D.rt) : tRet te D σ H := h
theorem go_retN (h : D.rt .non H) : tRetN D σ H := h
theorem go_drop (h : te σ H fun _ H1 => D.nx σ H1) : tDrop te D σ H := h
theorem go_next (h : D.nx σ H) : tNext D σ H := h
theorem go_brk (h : D.bk σ H) : tBreak D σ H := h
theorem go_cont (h : D.ct σ H) : tCont D σ H := h
theorem go_ifS (h : t σ H fun b H1 => if b = true then t1 D σ H1 else t2 D σ H1) : tIfS t t1 t2 D σ H := h
theorem go_par (h : tr σ H fun vs H1 => ∃ v w, vs = [v, w] ∧ D.nx ((σ.set i (some v)).set j (some w)) H1) : tPar i j tr D σ H := h
theorem go_par2 {P : V → V → Prop} (h : P x y) : ∃ v w, [x, y] = [v, w] ∧ P v w := ⟨x, y, rfl, h⟩
theorem go_bm {T : String} {rb : V → List V → Hp → VK → Prop} (h : ta σ H fun x H1 => tyV K T x H1 ∧ tr σ H1 fun xs H2 => rb x xs H2 Q) : tBM K T rb ta tr σ H Q := h
theorem go_I0 {f : Int → Int → V} (q : Q (f a b) H) : rI0 f (.int a) (.int b) H Q := ⟨a, b, rfl, rfl, q⟩
theorem go_I {C : Int → Int → Prop} {f : Int → Int → V} (hc : C a b) (q : Q (f a b) H) : rI C f (.int a) (.int b) H Q := ⟨a, b, rfl, rfl, hc, q⟩
theorem go_U {f : Int → V} (q : Q (f a) H) : rU f (.int a) H Q := ⟨a, rfl, q⟩
theorem go_eq (h : scal x y = true) (q : Q (.bl (decide (x = y))) H) : rEq x y H Q := ⟨h, q⟩
theorem go_ne (h : scal x y = true) (q : Q (.bl (!decide (x = y))) H) : rNe x y H Q := ⟨h, q⟩
theorem go_isN (q : Q (.bl (decide (x = .non))) H) : rIsN x .non H Q := ⟨rfl, q⟩
theorem go_notN (q : Q (.bl (!decide (x = .non))) H) : rNotN x .non H Q := ⟨rfl, q⟩
theorem go_app {l : Addr} {xs : List V} (h : H l = some (.lst xs)) (hz : xs.length < sizeLine) (q : Q .non (upd H l (.lst (xs ++ [y])))) : rAppend (.ref l) [y] H Q := ⟨l, xs, y, rfl, rfl, h, hz, q⟩
theorem go_tyL {l : Addr} {xs : List V} (h : H l = some (.lst xs)) {P : Prop} (q : P) : tyV K "list" (.ref l) H ∧ P := ⟨.inl ⟨rfl, _, SqL.of h⟩, q⟩
theorem go_cat {l m : Addr} {xs zs : List V} (h1 : H l = some (.lst xs)) (h2 : H m = some (.lst zs)) (hz : xs.length + zs.length ≤ sizeLine) (q : ∀ p, H p = none → Q (.ref p) (upd H p (.lst (xs ++ zs)))) : rCat (.ref l) (.ref m) H Q :=
  ⟨l, m, xs, zs, rfl, rfl, h1, h2, hz, q⟩
theorem go_rep {l : Addr} {xs : List V} {k : Int} (h1 : H l = some (.lst xs)) (h2 : -(2 ^ 63) ≤ k ∧ k < 2 ^ 63) (hz : xs.length * k.toNat ≤ sizeLine) (q : ∀ p, H p = none → Q (.ref p) (upd H p (.lst (List.replicate k.toNat xs).flatten))) : rRep (.ref l) (.int k) H Q :=
  ⟨l, k, xs, rfl, rfl, h1, h2.1, h2.2, hz, q⟩
end
/-! ### built-ins by name -/
def rLenQ (K : PySem.W.Frag) : List V → Hp → VK → Prop := fun xs H Q => ∃ p ys, xs = [.ref p] ∧ (SqL K H p ys ∨ SqT K H p ys) ∧ Q (.int ys.length) H
def rAbsQ : List V → Hp → VK → Prop := fun xs H Q => ∃ i, xs = [.int i] ∧ Q (.int (if i < 0 then -i else i)) H
def rMaxQ : List V → Hp → VK → Prop := fun xs H Q => ∃ i j, xs = [.int i, .int j] ∧ Q (.int (if j > i then j else i)) H
def rMinQ : List V → Hp → VK → Prop := fun xs H Q => ∃ i j, xs = [.int i, .int j] ∧ Q (.int (if j < i then j else i)) H
def rIntQ : List V → Hp → VK → Prop := fun xs H Q => (∃ i, xs = [.int i] ∧ Q (.int i) H) ∨ ∃ k, xs = [.bl k] ∧ Q (.int (if k then 1 else 0)) H
section
variable {X : Cx}
theorem call_lenQ : CallR X (.builtin "len") (rLenQ X.K) := call_len_seq
theorem call_absQ : CallR X (.builtin "abs") rAbsQ := call_abs
theorem call_maxQ (hc : X.calm = true) : CallR X (.builtin "max") rMaxQ := call_max2 hc
theorem call_minQ (hc : X.calm = true) : CallR X (.builtin "min") rMinQ := call_min2 hc
theorem call_intQ : CallR X (.type "int") rIntQ := call_int1
end
section
variable {K : PySem.W.Frag} {H : Hp} {Q : VK} {p : Addr} {ys : List V} {i j : Int} {b : Bool}
theorem go_lenL (h : Rd H p (.lst ys)) (k : Q (.int ys.length) H) : rLenQ K [.ref p] H Q := ⟨p, ys, rfl, .inl (.inl h), k⟩
theorem go_lenT (h : Rd H p (.tup ys)) (k : Q (.int ys.length) H) : rLenQ K [.ref p] H Q := ⟨p, ys, rfl, .inr (.inl h), k⟩
theorem go_lenS (h : SqL K H p ys) (k : Q (.int ys.length) H) : rLenQ K [.ref p] H Q := ⟨p, ys, rfl, .inl h, k⟩
theorem go_abs (k : Q (.int (if i < 0 then -i else i)) H) : rAbsQ [.int i] H Q := ⟨i, rfl, k⟩
theorem go_max (k : Q (.int (if j > i then j else i)) H) : rMaxQ [.int i, .int j] H Q := ⟨i, j, rfl, k⟩
theorem go_min (k : Q (.int (if j < i then j else i)) H) : rMinQ [.int i, .int j] H Q := ⟨i, j, rfl, k⟩
theorem go_int (k : Q (.int i) H) : rIntQ [.int i] H Q := .inl ⟨i, rfl, k⟩
theorem go_intB (k : Q (.int (if b then 1 else 0)) H) : rIntQ [.bl b] H Q := .inr ⟨b, rfl, k⟩
end
/-- a slot is read -/
theorem wide1 {b : Int} (h0 : 0 < b) (h : b < 2 ^ 400) {a : Int} : CDivW a b := wide_div (b := 400) h0 (by omega) (by decide) (by decide)
end HX
namespace HX
open PySem L2
theorem go_new {n : Nat} {R : Prop} (h : n ≤ sizeLine) (k : R) : n ≤ sizeLine ∧ R := ⟨h, k⟩
end HX
namespace HX
open PySem PySem.Spec PyProof.Rows L2
open Evl (Ex)
/-! ### loops -/
section
variable {K : PySem.W.Frag} {H : Hp} {Q : VK} {σ : L2.St} {ta : TA} {tl te : TE} {tt : TT} {D : Ends} {tb : TS} {g : TG} {lo : Int} {n : Nat} {a : Addr} {xs : List V} {vs : List Nat}
def forR (lo : Int) (n : Nat) (g : TG) (tb : TS) : TS := tFor (fun _ H R => R (Itr lo n) H) g tb
def forL (K : PySem.W.Frag) (a : Addr) (g : TG) (tb : TS) : TS := tFor (fun _ H R => R (Itl K a) H) g tb
def forT (K : PySem.W.Frag) (a : Addr) (g : TG) (tb : TS) : TS := tFor (fun _ H R => R (Itt K a) H) g tb
def forE (K : PySem.W.Frag) (a : Addr) (g : TG) (tb : TS) : TS := tFor (fun _ H R => R (Ite K a) H) g tb
theorem go_forR1 (h : ta σ H fun vs H1 => ∃ j : Int, vs = [.int j] ∧ -(2 ^ 62) ≤ j ∧ j < 2 ^ 62 ∧ forR 0 j.toNat g tb D σ H1) : tFor (iRng1 ta) g tb D σ H := h
theorem go_forR2 (h : ta σ H fun vs H1 => ∃ i j : Int, vs = [.int i, .int j] ∧ (-(2 ^ 62) ≤ i ∧ i < 2 ^ 62 ∧ -(2 ^ 62) ≤ j ∧ j < 2 ^ 62) ∧ forR i (j - i).toNat g tb D σ H1) : tFor (iRng2 ta) g tb D σ H := h
theorem go_forL (h : tl σ H fun x H1 => ∃ a, x = .ref a ∧ (∃ xs, SqL K H1 a xs) ∧ forL K a g tb D σ H1) : tFor (iList K tl) g tb D σ H := h
theorem go_forT (h : tl σ H fun x H1 => ∃ a, x = .ref a ∧ (∃ xs, SqT K H1 a xs) ∧ forT K a g tb D σ H1) : tFor (iTup K tl) g tb D σ H := h
theorem go_forE (h : ta σ H fun vs H1 => ∃ a xs, vs = [.ref a] ∧ SqL K H1 a xs ∧ forE K a g tb D σ H1) : tFor (iEnum K ta) g tb D σ H := h
theorem run_forR (Pv : Nat → L2.St → Hp → Prop) (h0 : Pv 0 σ H)
    (hs : ∀ i σ H, i < n → Pv i σ H → g (.int (lo + i)) σ H fun σ2 H2 => tb { D with nx := Pv (i + 1), ct := Pv (i + 1), bk := D.nx } σ2 H2) (hd : ∀ σ H, Pv n σ H → D.nx σ H) : forR lo n g tb D σ H := for_range Pv h0 hs hd
theorem run_forL (xs : List V) (Pv : Nat → L2.St → Hp → Prop) (h0 : Pv 0 σ H) (hl : ∀ i σ H, i ≤ xs.length → Pv i σ H → SqL K H a xs)
    (hs : ∀ i x σ H, xs[i]? = some x → Pv i σ H → g x σ H fun σ2 H2 => tb { D with nx := Pv (i + 1), ct := Pv (i + 1), bk := D.nx } σ2 H2) (hd : ∀ σ H, Pv xs.length σ H → D.nx σ H) : forL K a g tb D σ H := for_list Pv h0 hl hs hd
theorem run_forT (xs : List V) (Pv : Nat → L2.St → Hp → Prop) (h0 : Pv 0 σ H) (hl : ∀ i σ H, i ≤ xs.length → Pv i σ H → SqT K H a xs)
    (hs : ∀ i x σ H, xs[i]? = some x → Pv i σ H → g x σ H fun σ2 H2 => tb { D with nx := Pv (i + 1), ct := Pv (i + 1), bk := D.nx } σ2 H2) (hd : ∀ σ H, Pv xs.length σ H → D.nx σ H) : forT K a g tb D σ H := for_tup Pv h0 hl hs hd
/-- comprehensions -/
def lcR (lo : Int) (n : Nat) (g : TG) (tt : TT) (te : TE) (vs : List Nat) : TE := tLc (fun _ H R => R (Itr lo n) H) g tt te vs
def lcL (K : PySem.W.Frag) (a : Addr) (g : TG) (tt : TT) (te : TE) (vs : List Nat) : TE := tLc (fun _ H R => R (Itl K a) H) g tt te vs
def lcT (K : PySem.W.Frag) (a : Addr) (g : TG) (tt : TT) (te : TE) (vs : List Nat) : TE := tLc (fun _ H R => R (Itt K a) H) g tt te vs
theorem go_lcR1 (h : ta σ H fun us H1 => ∃ j : Int, us = [.int j] ∧ -(2 ^ 62) ≤ j ∧ j < 2 ^ 62 ∧ lcR 0 j.toNat g tt te vs σ H1 Q) : tLc (iRng1 ta) g tt te vs σ H Q := h
theorem go_lcL (h : tl σ H fun x H1 => ∃ a, x = .ref a ∧ (∃ xs, SqL K H1 a xs) ∧ lcL K a g tt te vs σ H1 Q) : tLc (iList K tl) g tt te vs σ H Q := h
theorem go_lcT (h : tl σ H fun x H1 => ∃ a, x = .ref a ∧ (∃ xs, SqT K H1 a xs) ∧ lcT K a g tt te vs σ H1 Q) : tLc (iTup K tl) g tt te vs σ H Q := h
/-- acc at D so far: Pv i acc H; what a turn appends -/
theorem run_lcR (Pv : Addr → Nat → Hp → Prop) (h0 : ∀ D, H D = none → Pv D 0 (upd H D (.lst [])))
    (hs : ∀ D i H, i < n → Pv D i H → g (.int (lo + i)) (wipe σ vs) H fun σ2 H2 => wipe σ2 vs = wipe σ vs ∧ tt σ2 H2 fun b H3 =>
      if b = true then te σ2 H3 fun y H4 => ∃ acc, H4 D = some (.lst acc) ∧ acc.length < sizeLine ∧ Pv D (i + 1) (upd H4 D (.lst (acc ++ [y]))) else Pv D (i + 1) H3) (hd : ∀ D H', H D = none → Pv D n H' → Q (.ref D) H') : lcR lo n g tt te vs σ H Q :=
  fun D hD => lc_range (Pv D) (h0 D hD) (hs D) fun H' p => hd D H' hD p
theorem run_lcL (xs : List V) (Pv : Addr → Nat → Hp → Prop) (h0 : ∀ D, H D = none → Pv D 0 (upd H D (.lst []))) (hl : ∀ D i H, i ≤ xs.length → Pv D i H → SqL K H a xs)
    (hs : ∀ D i x H, xs[i]? = some x → Pv D i H → g x (wipe σ vs) H fun σ2 H2 => wipe σ2 vs = wipe σ vs ∧ tt σ2 H2 fun b H3 =>
      if b = true then te σ2 H3 fun y H4 => ∃ acc, H4 D = some (.lst acc) ∧ acc.length < sizeLine ∧ Pv D (i + 1) (upd H4 D (.lst (acc ++ [y]))) else Pv D (i + 1) H3) (hd : ∀ D H', H D = none → Pv D xs.length H' → Q (.ref D) H') : lcL K a g tt te vs σ H Q :=
  fun D hD => lc_list (Pv D) (h0 D hD) (hl D) (hs D) fun H' p => hd D H' hD p
theorem run_lcT (xs : List V) (Pv : Addr → Nat → Hp → Prop) (h0 : ∀ D, H D = none → Pv D 0 (upd H D (.lst []))) (hl : ∀ D i H, i ≤ xs.length → Pv D i H → SqT K H a xs)
    (hs : ∀ D i x H, xs[i]? = some x → Pv D i H → g x (wipe σ vs) H fun σ2 H2 => wipe σ2 vs = wipe σ vs ∧ tt σ2 H2 fun b H3 =>
      if b = true then te σ2 H3 fun y H4 => ∃ acc, H4 D = some (.lst acc) ∧ acc.length < sizeLine ∧ Pv D (i + 1) (upd H4 D (.lst (acc ++ [y]))) else Pv D (i + 1) H3) (hd : ∀ D H', H D = none → Pv D xs.length H' → Q (.ref D) H') : lcT K a g tt te vs σ H Q :=
  fun D hD => lc_tup (Pv D) (h0 D hD) (hl D) (hs D) fun H' p => hd D H' hD p
end
end HX
namespace HX
open PySem PySem.Spec PyProof.Rows L2
theorem cut_t {tt : TT} {σ : L2.St} {H : Hp} {Q : Bool → Hp → Prop} (R : Bool → Hp → Prop) (h : ∀ Q' : Bool → Hp → Prop, (∀ b H', R b H' → Q' b H') → tt σ H Q') (k : ∀ b H', R b H' → Q b H') : tt σ H Q := h Q k
theorem go_neD {K : PySem.W.Frag} {H : Hp} {Q : VK} {x y : V} {d e : PyData} (h1 : Dq H x d) (h2 : Dq H y e) (s1 : SeqAt.shaped d = true) (s2 : SeqAt.shaped e = true) (q : Q (.bl (!PyData.eqv d e)) H) : rNeD K x y H Q :=
  ⟨d, e, h1.dp (PyData.hasDict_of_canLay d (SeqAt.canLay_of_shaped s1)), h2.dp (PyData.hasDict_of_canLay e (SeqAt.canLay_of_shaped s2)), s1, s2, q⟩
theorem go_eqD {K : PySem.W.Frag} {H : Hp} {Q : VK} {x y : V} {d e : PyData} (h1 : Dq H x d) (h2 : Dq H y e) (s1 : SeqAt.shaped d = true) (s2 : SeqAt.shaped e = true) (q : Q (.bl (PyData.eqv d e)) H) : rEqD K x y H Q :=
  ⟨d, e, h1.dp (PyData.hasDict_of_canLay d (SeqAt.canLay_of_shaped s1)), h2.dp (PyData.hasDict_of_canLay e (SeqAt.canLay_of_shaped s2)), s1, s2, q⟩
end HX
namespace HX
open PySem PySem.Spec PyProof.Rows L2
section
variable {K : PySem.W.Frag} {H : Hp} {Q : VK} {σ : L2.St} {te : TE} {tl th : TO} {QO : Option Int → Hp → Prop} {a : Addr} {xs : List V} {i : Int} {lo hi : Option Int}
theorem go_sl {r : V → Option Int → Option Int → Hp → VK → Prop} (h : te σ H fun x H1 => tl σ H1 fun l H2 => th σ H2 fun u H3 => r x l u H3 Q) : tSl r te tl th σ H Q := h
theorem go_part (h : te σ H fun x H1 => ∃ i, x = .int i ∧ QO (some i) H1) : tPart te σ H QO := h
theorem go_pint {Q : Int → Prop} (h : Q i) : ∃ j, V.int i = V.int j ∧ Q j := ⟨i, rfl, h⟩
theorem go_nopart (h : QO none H) : tNoPart σ H QO := h
theorem go_slT (h : Rd H a (.tup xs)) (hn : ¬ (HT.sIx xs.length 0 lo = 0 ∧ HT.sIx xs.length xs.length hi = xs.length)) (k : ∀ p, H p = none → Q (.ref p) (upd H p (.tup (cutV xs lo hi)))) : rSlT K (.ref a) lo hi H Q := ⟨a, xs, rfl, .inl h, hn, k⟩
theorem go_slL (h : Rd H a (.lst xs)) (k : ∀ p, H p = none → Q (.ref p) (upd H p (.lst (cutV xs lo hi)))) : rSlL K (.ref a) lo hi H Q := ⟨a, xs, rfl, .inl h, k⟩
theorem cut_tail (x : V) (l : List V) : cutV (x :: l) (some 1) none = l ∧ ¬ (HT.sIx (x :: l).length 0 (some 1) = 0 ∧ HT.sIx (x :: l).length (x :: l).length none = (x :: l).length) := by
  have e1 : HT.sIx (x :: l).length 0 (some 1) = 1 := by
    simp [HT.sIx]
  have e2 : HT.sIx (x :: l).length (x :: l).length none = l.length + 1 := by
    simp [HT.sIx]
  refine ⟨?_, by rw [e1]; simp⟩
  unfold cutV
  rw [e1, e2]
  simp
end
end HX
namespace HX
open PySem PySem.Spec PyProof.Rows L2
theorem run_forE {K : PySem.W.Frag} {a : Addr} {g : TG} {tb : TS} {D : Ends} {σ : L2.St} {H : Hp} (xs : List V) (Pv : Nat → L2.St → Hp → Prop) (h0 : Pv 0 σ H) (hl : ∀ i σ H, i ≤ xs.length → Pv i σ H → SqL K H a xs)
    (hs : ∀ i x σ H T, xs[i]? = some x → Pv i σ H → H T = none → g (.ref T) σ (upd H T (.tup [.int (i : Nat), x])) fun σ2 H2 => tb { D with nx := Pv (i + 1), ct := Pv (i + 1), bk := D.nx } σ2 H2)
    (hd : ∀ σ H, Pv xs.length σ H → D.nx σ H) : forE K a g tb D σ H := by
  refine ⟨fun i m σ H => m = xs.length - i ∧ i ≤ xs.length ∧ Pv i σ H, ⟨xs.length, by simp, Nat.zero_le _, h0⟩, ?_⟩
  rintro i m σ H ⟨rfl, hi, p⟩
  have q := hl i σ H hi p
  rcases Nat.lt_or_ge i xs.length with hlt | hge
  · refine .inr ⟨⟨xs, xs[i], q, by simp [hlt]⟩, Pv (i + 1), fun σ' H' p' => ⟨xs.length - (i + 1), by omega, rfl, hlt, p'⟩, ?_⟩
    rintro v H' ⟨T, x, rfl, hT, rfl, y⟩
    exact hs i x σ H T (y xs q) p hT
  · obtain rfl : i = xs.length := by omega
    exact .inl ⟨⟨xs, q, Nat.le_refl _⟩, hd σ H p⟩
end HX

set_option Elab.async false
set_option linter.all false
set_option maxRecDepth 100000
set_option maxHeartbeats 1000000

namespace Kx
open PySem PySem.Spec PyProof.Rows L2 HX
open Evl (Ex)
def top (i : Nat) : Stmt := PySem.Challenge.pw_imagetones_k02_tones_by_hand.main.body.getD i (.Pass ⟨0, 0, 0, 0⟩)
/-- the jar: what is left of a cell, a seed, how many draws were mixed (n at most) -/
def JarAt (n : Nat) (H : Hp) (j : Addr) : Prop := ∃ a b c : Int, H j = some (.lst [.int a, .int b, .int c]) ∧ 0 ≤ b ∧ b < 2 ^ 95 ∧ 0 ≤ c ∧ c ≤ n
theorem JarAt.mono {n m : Nat} {H : Hp} {j : Addr} (h : JarAt n H j) (e : n ≤ m) : JarAt m H j := by
  obtain ⟨a, b, c, h1, h2, h3, h4, h5⟩ := h
  exact ⟨a, b, c, h1, h2, h3, h4, by omega⟩
def spJar (K : PySem.W.Frag) : Sp := fun vs H Q _ => ∃ (a : Addr) (ns : List Int) (i : Nat), vs = [.ref a, .int i] ∧ SqL K H a (ns.map V.int) ∧ i < 1000 ∧ ∀ j H', H j = none → Ex H H' → JarAt 0 H' j → Q (.ref j) H'
def spPick : Sp := fun vs H Q _ => ∃ (j : Addr) (bound : Int) (n : Nat), vs = [.ref j, .int bound] ∧ JarAt n H j ∧ n < 2 ^ 50 ∧ 0 < bound ∧ bound < 2 ^ 400 ∧
  ∀ (r : Int) (H' : Hp), 0 ≤ r → r < bound → JarAt (n + 1) H' j → Jx [j] H H' → Q (.int r) H'
local macro_rules | `(tactic| walk_at "side") => `(tactic| first | assumption | ((try dsimp only); first | assumption | decide +kernel | omega | exact ⟨by decide, by decide⟩ | (left; decide) | (left; omega) | (refine Or.inl ⟨?_, ?_⟩ <;> omega) | (refine Or.inr ⟨?_, ?_⟩ <;> omega)))
local macro_rules | `(tactic| walk_at "heap") => `(tactic| first | assumption | exact upd_same | exact Or.inl (by assumption) | exact Or.inl upd_same)
local macro_rules | `(tactic| walk_at "item") => `(tactic| first | exact rfl | exact atI_nat (j := 0) rfl | exact atI_nat (j := 1) rfl | exact atI_nat (j := 2) rfl | assumption)
local macro_rules | `(tactic| walk_at "rd") => `(tactic| repeat (first
  | ((with_reducible refine' go_var ?hv ?_); (case hv => exact rfl))
  | with_reducible refine' go_c ?_
  | with_reducible refine' go_op ?_
  | with_reducible refine' go_seq ?_
  | with_reducible refine' go_asg ?_
  | with_reducible refine' go_name ?_
  | with_reducible refine' go_cons ?_
  | with_reducible refine' go_nil ?_
  | with_reducible refine' go_cb ?_
  | with_reducible refine' go_call ?_
  | with_reducible refine' go_ifS ?_
  | with_reducible refine' go_test ?_
  | with_reducible refine' go_bl ?_
  | with_reducible refine' go_ret ?_
  | with_reducible refine' go_I0 ?_
  | ((with_reducible refine' go_I ?cc ?_); (case cc => walk_at "side"))
  | ((with_reducible refine' go_ixL ?hh ?hk ?_); (case hh => walk_at "heap"); (case hk => walk_at "item"))
  | ((with_reducible refine' go_ixT ?hh ?hk ?_); (case hh => walk_at "heap"); (case hk => walk_at "item"))
  | ((with_reducible refine' go_lenL ?hh ?_); (case hh => walk_at "heap"))
  | ((with_reducible refine' go_lenT ?hh ?_); (case hh => walk_at "heap"))
  | ((with_reducible refine' go_setL ?hh ?hk ?_); (case hh => walk_at "heap"); (case hk => walk_at "item"))
  | with_reducible refine' go_abs ?_
  | with_reducible refine' go_max ?_
  | with_reducible refine' go_min ?_
  | with_reducible refine' go_int ?_
  | with_reducible refine' go_intB ?_
  | (with_reducible refine' go_eq rfl ?_)
  | (with_reducible refine' go_ne rfl ?_)
  | with_reducible refine' go_isN ?_
  | with_reducible refine' go_notN ?_
  | with_reducible refine' go_if ?_
  | with_reducible refine' go_sub ?_
  | with_reducible refine' go_par ?_
  | with_reducible refine' go_sl ?_
  | with_reducible refine' go_part ?_
  | with_reducible refine' go_pint ?_
  | with_reducible refine' go_nopart ?_
  | ((with_reducible refine' go_lenL ?hh ?_); (case hh => walk_at "heap"))
  | ((with_reducible refine' go_lenT ?hh ?_); (case hh => walk_at "heap"))
  | ((with_reducible refine' go_lenS ?hh ?_); (case hh => assumption))
  | with_reducible refine' go_gcons ?_
  | with_reducible refine' go_gnil ?_
  | with_reducible refine' go_kw ?_
  | with_reducible refine' go_par2 ?_
  | with_reducible refine' go_next ?_
  | with_reducible refine' go_drop ?_
  | with_reducible refine' go_and ?_
  | with_reducible refine' go_or ?_
  | with_reducible refine' go_not ?_
  | with_reducible refine' go_B ?_
  | with_reducible refine' go_andV ?_
  | with_reducible refine' go_orV ?_
  | with_reducible refine' go_notV ?_
  | with_reducible refine' go_chain ?_
  | with_reducible refine' go_un ?_
  | with_reducible refine' go_U ?_
  | with_reducible refine' go_bm ?_
  | with_reducible refine' go_tup ?_
  | with_reducible refine' go_lst ?_
  | with_reducible refine' go_forR1 ?_
  | with_reducible refine' go_forR2 ?_
  | with_reducible refine' go_forL ?_
  | with_reducible refine' go_forT ?_
  | with_reducible refine' go_forE ?_
  | with_reducible refine' go_lcR1 ?_
  | with_reducible refine' go_lcL ?_
  | with_reducible refine' go_lcT ?_
  | ((with_reducible refine' go_tyL ?hh ?_); (case hh => walk_at "heap"))
  | ((with_reducible refine' go_new ?hz ?_); (case hz => exact Nat.le_of_ble_eq_true rfl))
  | (with_reducible refine' ⟨_, rfl, ?_⟩)
  ))
--MACEND
section
variable {P : Program} {w : World} {K : PySem.W.Frag} {mg : Str → Option Value} {base : Heap}
abbrev s__law_jar : Stmt := top 25
theorem sc__law_jar : FnScope ["script", "at", "cell"] ["script", "at"] (defScope s__law_jar) := ⟨rfl, rfl, rfl, by decide +kernel, rfl, by decide +kernel, by decide +kernel⟩
theorem ok_jar {f : Addr} {fd : FuncData} (F : Fun K "_law_jar" "_law_jar" s__law_jar f fd) (m_len : mg "len" = none) (m_max : mg "max" = none) (m_abs : mg "abs" = none) (m_int : mg "int" = none) :
    FnOk P w K mg base CX0 1 f fd ["script", "at"] (spJar K) := by
  refine F.ok sc__law_jar (fun vs H Q E h => ?_) (fun cdv A outer s H vs Q E hr h => ?_)
  · obtain ⟨a, ns, i, rfl, _⟩ := h
    rfl
  · obtain ⟨a, ns, i, rfl, hS, hi, k⟩ := h
    refine ⟨_, (pss_cons (ps_set (i := 2) sc__law_jar.nd rfl (Or.inl rfl) (pe_ifExp (pt_cmpR op_lt (pv 1) (pe_callB call_lenQ rfl m_len PySem.boot_len (pa_cons (pv 0) pa_nil)) (nomark _)) (pe_ix ix_list (pv 0) (pv 1) (fun _ _ => rfl)) pe_int))
  (pss_one (ps_ret (pe_lst (pa_cons (pe_callB (call_maxQ rfl) rfl m_max boot_max (pa_cons pe_int (pa_cons (pe_op op_add (pe_op op_sub (pe_callB call_absQ rfl m_abs (by decide +kernel) (pa_cons (pv 2) pa_nil)) (pe_op op_powW pe_int pe_int)) pe_int) pa_nil))) (pa_cons (pe_op op_add (pe_op op_mod (pe_callTy call_intQ rfl m_int boot_int (pa_cons (pv 2) pa_nil)) (pe_op op_add (pe_op op_powW pe_int pe_int) pe_int)) (pe_op op_mul pe_int (pe_op op_add (pv 1) pe_int))) (pa_cons pe_int pa_nil))))))), ?_⟩
    refine cut_e (te := tIf _ _ _) (fun v H' => ∃ cell : Int, v = .int cell ∧ H' = H) (fun Q' q => ?_) ?_
    · refine ⟨_, rfl, _, rfl, a, _, rfl, .inl hS, _, _, rfl, rfl, _, rfl, ite2 (fun h => ?_) (fun h => q _ _ ⟨_, rfl, rfl⟩)⟩
      have hlt : i < ns.length := by simpa using h
      refine ⟨_, rfl, _, rfl, _, _, _, V.int ns[i], rfl, rfl, hS, atI_nat (by simp [hlt]), q _ _ ⟨_, rfl, rfl⟩⟩
    · rintro v H' ⟨cell, rfl, rfl⟩
      have c18 : CPowW 10 18 := wide_pow (b := 4) (by decide) (by decide) (by decide)
      have c27 : CPowW 10 27 := wide_pow (b := 4) (by decide) (by decide) (by decide)
      walk_at "rd"
      intro p hp
      have e27 : (10 : Int) ^ (27 : Int).toNat + 103 = 1000000000000000000000000103 := by decide +kernel
      refine k _ _ hp (Ex.new hp) ⟨_, _, _, upd_same, ?_, ?_, by decide, by decide⟩
      · rw [e27]; omega
      · rw [e27]; omega
abbrev s__law_pick : Stmt := top 26
theorem sc__law_pick : FnScope ["jar", "bound", "drawn", "mixed"] ["jar", "bound"] (defScope s__law_pick) := ⟨rfl, rfl, rfl, by decide +kernel, rfl, by decide +kernel, by decide +kernel⟩
theorem ok_pick {f : Addr} {fd : FuncData} (F : Fun K "_law_pick" "_law_pick" s__law_pick f fd) (m_int : mg "int" = none) :
    FnOk P w K mg base CX0 1 f fd ["jar", "bound"] spPick := by
  refine F.ok sc__law_pick (fun vs H Q E h => ?_) (fun cdv A outer s H vs Q E hr h => ?_)
  · obtain ⟨j, bound, n, rfl, _⟩ := h
    rfl
  · obtain ⟨j, bound, n, rfl, ⟨a, b, c, hj, b0, b1, c0, c1⟩, hn, hb0, hb1, k⟩ := h
    refine ⟨_, (pss_cons (ps_if (pt_cmpR op_gt (pe_ix ix_list (pv 0) pe_int (fun _ _ => rfl)) pe_int (nomark _))
  (pss_cons (ps_set (i := 2) sc__law_pick.nd rfl (Or.inl rfl) (pe_op op_mod (pe_callTy call_intQ rfl m_int boot_int (pa_cons (pe_ix ix_list (pv 0) pe_int (fun _ _ => rfl)) pa_nil)) (pv 1)))
  (pss_cons (ps_asg (pe_op op_fdivW (pe_ix ix_list (pv 0) pe_int (fun _ _ => rfl)) (pv 1)) (pg_sub (pv 0) pe_int set_list))
  (pss_one (ps_ret (pv 2)))))
  pss_nil)
  (pss_cons (ps_asg (pe_op op_add (pe_ix ix_list (pv 0) pe_int (fun _ _ => rfl)) pe_int) (pg_sub (pv 0) pe_int set_list))
  (pss_cons (ps_set (i := 3) sc__law_pick.nd rfl (Or.inl rfl) (pe_op op_mod (pe_callTy call_intQ rfl m_int boot_int (pa_cons (pe_op op_powW (pe_op op_add (pe_ix ix_list (pv 0) pe_int (fun _ _ => rfl)) (pe_op op_mul pe_int (pe_ix ix_list (pv 0) pe_int (fun _ _ => rfl)))) pe_int) pa_nil)) (pe_op op_add (pe_op op_powW pe_int pe_int) pe_int)))
  (pss_cons (ps_set (i := 3) sc__law_pick.nd rfl (Or.inl rfl) (pe_op op_mod (pe_callTy call_intQ rfl m_int boot_int (pa_cons (pe_op op_powW (pe_op op_add (pv 3) (pe_op op_mul pe_int (pe_ix ix_list (pv 0) pe_int (fun _ _ => rfl)))) pe_int) pa_nil)) (pe_op op_add (pe_op op_powW pe_int pe_int) pe_int)))
  (pss_one (ps_ret (pe_op op_mod (pe_callTy call_intQ rfl m_int boot_int (pa_cons (pe_op op_fdiv (pv 3) pe_int) pa_nil)) (pv 1)))))))), ?_⟩
    have e39 : (10 : Int) ^ (39 : Int).toNat + 3 = 1000000000000000000000000000000000000003 := by decide +kernel
    have e42 : (10 : Int) ^ (42 : Int).toNat + 63 = 1000000000000000000000000000000000000000063 := by decide +kernel
    have p39 : CPowW 10 39 := wide_pow (b := 4) (by decide) (by decide) (by decide)
    have p42 : CPowW 10 42 := wide_pow (b := 4) (by decide) (by decide) (by decide)
    walk_at "rd"
    refine ite2 (fun h => ?_) (fun h => ?_)
    · -- the digits of the cell
      have ha : 0 < a := by simpa using h
      have hd : CDivW a bound := wide_div (b := 400) hb0 (by omega) (by decide) (by decide)
      walk_at "rd"
      exact k _ _ (Int.emod_nonneg _ (by omega)) (Int.emod_lt_of_pos _ hb0) ⟨_, b, c, upd_same, b0, b1, c0, by omega⟩ (Jx.upd (by simp))
    · have m39 : ∀ z : Int, 0 ≤ z % 1000000000000000000000000000000000000003 ∧ z % 1000000000000000000000000000000000000003 < 1000000000000000000000000000000000000003 := fun z => by omega
      have q1 : CPowW (b + 611953 * (c + 1)) 3 := wide_pow (b := 200) (by omega) (by decide) (by decide)
      have q2 : ∀ z : Int, CPowW (z % (10 ^ (39 : Int).toNat + 3) + 86028121 * (c + 1)) 3 := fun z => wide_pow (b := 200) (by rw [e39]; omega) (by decide) (by decide)
      walk_at "rd"
      refine go_I (q2 _) ?_
      walk_at "rd"
      refine k _ _ (Int.emod_nonneg _ (by omega)) (Int.emod_lt_of_pos _ hb0) ⟨a, b, c + 1, upd_same, b0, b1, by omega, by omega⟩ (Jx.upd (by simp))
end
end Kx

set_option Elab.async false
set_option linter.all false
set_option maxRecDepth 100000
set_option maxHeartbeats 2000000

namespace Kx
open PySem PySem.Spec PyProof.Rows L2 HX
open Evl (Ex)
/-! ### receivers as data -/
inductive Stg where
  | mix (lo : Int) | dial (add : Int) | pass (lo hi : Int)
def Stg.d : Stg → PyData
  | .mix lo => .tuple [.str "mix", .int lo]
  | .dial a => .tuple [.str "dial", .int a]
  | .pass lo hi => .tuple [.str "pass", .int lo, .int hi]
def Stg.ok (b : Int) : Stg → Prop
  | .mix lo => 0 ≤ lo ∧ lo ≤ b
  | .dial a => -b ≤ a ∧ a ≤ b
  | .pass lo hi => 0 ≤ lo ∧ lo ≤ hi ∧ hi ≤ b
def Stg.isDial : Stg → Bool
  | .dial _ => true
  | _ => false
def dials (ss : List Stg) : Nat := (ss.filter Stg.isDial).length
def rateD : Option Int → PyData
  | none => .none
  | some r => .int r
structure Rad (b : Int) (ss : List Stg) (rate : Option Int) : Prop where
  ne : ss ≠ []
  le : ss.length ≤ 8
  ok : ∀ s ∈ ss, s.ok b
  one : dials ss ≤ 1
  rate : ∀ r, rate = some r → 2 ≤ r ∧ r ≤ b
def radD (ss : List Stg) (rate : Option Int) : PyData := .tuple [.list (ss.map Stg.d), rateD rate]
/-- a stage's tuple at a -/
theorem stg_at {H : Hp} {v : V} {s : Stg} (h : Dq H v s.d) : ∃ a, v = .ref a ∧ match s with
    | .mix lo => Rd H a (.tup [.str "mix", .int lo])
    | .dial x => Rd H a (.tup [.str "dial", .int x])
    | .pass lo hi => Rd H a (.tup [.str "pass", .int lo, .int hi]) := by
  cases s with
  | mix lo => cases h with | tup h1 h2 => cases h2 with | cons q1 q2 => cases q1; cases q2 with | cons q3 q4 => cases q3; cases q4; exact ⟨_, rfl, h1⟩
  | dial lo => cases h with | tup h1 h2 => cases h2 with | cons q1 q2 => cases q1; cases q2 with | cons q3 q4 => cases q3; cases q4; exact ⟨_, rfl, h1⟩
  | pass lo hi => cases h with | tup h1 h2 => cases h2 with | cons q1 q2 => cases q1; cases q2 with | cons q3 q4 => cases q3; cases q4 with | cons q5 q6 => cases q5; cases q6; exact ⟨_, rfl, h1⟩
def Stg.vals : Stg → List V
  | .mix lo => [.str "mix", .int lo]
  | .dial x => [.str "dial", .int x]
  | .pass lo hi => [.str "pass", .int lo, .int hi]
theorem dq_stg {S : List Addr} {G : Hp} {q : Addr} {s : Stg} (h : G q = some (.tup s.vals)) (hq : q ∉ S) : Dq (hid S G) (.ref q) s.d := by
  have h' : hid S G q = some (.tup s.vals) := by rw [hid_ne hq]; exact h
  cases s with
  | mix lo => exact .tup (.inl h') (.cons (.str _) (.cons (.int _) .nil))
  | dial x => exact .tup (.inl h') (.cons (.str _) (.cons (.int _) .nil))
  | pass lo hi => exact .tup (.inl h') (.cons (.str _) (.cons (.int _) (.cons (.int _) .nil)))
theorem dials_app (ss : List Stg) (s : Stg) : dials (ss ++ [s]) = dials ss + (if s.isDial then 1 else 0) := by
  unfold dials
  rw [List.filter_append, List.length_append, List.filter_cons]
  split <;> rfl
def spRadio : Sp := fun vs H Q _ => ∃ (j : Addr) (most far : Int) (n : Nat), vs = [.ref j, .int most, .int far] ∧ JarAt n H j ∧ n < 2 ^ 40 ∧ 1 ≤ most ∧ most ≤ 8 ∧ 1 ≤ far ∧ far < 2 ^ 200 ∧
  ∀ (p : Addr) (ss : List Stg) (rate : Option Int) (H' : Hp), Rad (10 * far + 20) ss rate → ss.length ≤ most.toNat → Dq (hid [j] H') (.ref p) (radD ss rate) → H p = none → JarAt (n + 100) H' j → Jx [j] H H' → Q (.ref p) H'
local macro_rules | `(tactic| walk_at "side") => `(tactic| first | assumption | ((try dsimp only); first | assumption | decide +kernel | omega | exact ⟨by decide, by decide⟩ | (left; decide) | (left; omega) | (refine Or.inl ⟨?_, ?_⟩ <;> omega) | (refine Or.inr ⟨?_, ?_⟩ <;> omega)))
local macro_rules | `(tactic| walk_at "heap") => `(tactic| first | assumption | exact upd_same | exact Or.inl (by assumption) | exact Or.inl upd_same)
local macro_rules | `(tactic| walk_at "item") => `(tactic| first | exact rfl | exact atI_nat (j := 0) rfl | exact atI_nat (j := 1) rfl | exact atI_nat (j := 2) rfl | assumption)
local macro_rules | `(tactic| walk_at "rd") => `(tactic| repeat (first
  | ((with_reducible refine' go_var ?hv ?_); (case hv => exact rfl))
  | with_reducible refine' go_c ?_
  | with_reducible refine' go_op ?_
  | with_reducible refine' go_seq ?_
  | with_reducible refine' go_asg ?_
  | with_reducible refine' go_name ?_
  | with_reducible refine' go_cons ?_
  | with_reducible refine' go_nil ?_
  | with_reducible refine' go_cb ?_
  | with_reducible refine' go_call ?_
  | with_reducible refine' go_ifS ?_
  | with_reducible refine' go_test ?_
  | with_reducible refine' go_bl ?_
  | with_reducible refine' go_ret ?_
  | with_reducible refine' go_I0 ?_
  | ((with_reducible refine' go_I ?cc ?_); (case cc => walk_at "side"))
  | ((with_reducible refine' go_ixL ?hh ?hk ?_); (case hh => walk_at "heap"); (case hk => walk_at "item"))
  | ((with_reducible refine' go_ixT ?hh ?hk ?_); (case hh => walk_at "heap"); (case hk => walk_at "item"))
  | ((with_reducible refine' go_lenL ?hh ?_); (case hh => walk_at "heap"))
  | ((with_reducible refine' go_lenT ?hh ?_); (case hh => walk_at "heap"))
  | ((with_reducible refine' go_setL ?hh ?hk ?_); (case hh => walk_at "heap"); (case hk => walk_at "item"))
  | with_reducible refine' go_abs ?_
  | with_reducible refine' go_max ?_
  | with_reducible refine' go_min ?_
  | with_reducible refine' go_int ?_
  | with_reducible refine' go_intB ?_
  | (with_reducible refine' go_eq rfl ?_)
  | (with_reducible refine' go_ne rfl ?_)
  | with_reducible refine' go_isN ?_
  | with_reducible refine' go_notN ?_
  | with_reducible refine' go_if ?_
  | with_reducible refine' go_sub ?_
  | with_reducible refine' go_par ?_
  | with_reducible refine' go_sl ?_
  | with_reducible refine' go_part ?_
  | with_reducible refine' go_pint ?_
  | with_reducible refine' go_nopart ?_
  | ((with_reducible refine' go_lenL ?hh ?_); (case hh => walk_at "heap"))
  | ((with_reducible refine' go_lenT ?hh ?_); (case hh => walk_at "heap"))
  | ((with_reducible refine' go_lenS ?hh ?_); (case hh => assumption))
  | with_reducible refine' go_gcons ?_
  | with_reducible refine' go_gnil ?_
  | with_reducible refine' go_kw ?_
  | with_reducible refine' go_par2 ?_
  | with_reducible refine' go_next ?_
  | with_reducible refine' go_drop ?_
  | with_reducible refine' go_and ?_
  | with_reducible refine' go_or ?_
  | with_reducible refine' go_not ?_
  | with_reducible refine' go_B ?_
  | with_reducible refine' go_andV ?_
  | with_reducible refine' go_orV ?_
  | with_reducible refine' go_notV ?_
  | with_reducible refine' go_chain ?_
  | with_reducible refine' go_un ?_
  | with_reducible refine' go_U ?_
  | with_reducible refine' go_bm ?_
  | with_reducible refine' go_tup ?_
  | with_reducible refine' go_lst ?_
  | with_reducible refine' go_forR1 ?_
  | with_reducible refine' go_forR2 ?_
  | with_reducible refine' go_forL ?_
  | with_reducible refine' go_forT ?_
  | with_reducible refine' go_forE ?_
  | with_reducible refine' go_lcR1 ?_
  | with_reducible refine' go_lcL ?_
  | with_reducible refine' go_lcT ?_
  | ((with_reducible refine' go_tyL ?hh ?_); (case hh => walk_at "heap"))
  | ((with_reducible refine' go_new ?hz ?_); (case hz => exact Nat.le_of_ble_eq_true rfl))
  | (with_reducible refine' ⟨_, rfl, ?_⟩)
  ))
--MACEND
section
variable {P : Program} {w : World} {K : PySem.W.Frag} {mg : Str → Option Value} {base : Heap}
/-- what stands between two laps: the list at l holds the data ss, of which no more than one is a dial, none before the lap `spot` -/
structure Lap (b : Int) (S : List Addr) (l : Addr) (i : Nat) (spot : Int) (H : Hp) (vs : List V) (ss : List Stg) : Prop where
  at_ : H l = some (.lst vs)
  da : DqAll (hid S H) vs (ss.map Stg.d)
  len : ss.length = i
  ok : ∀ s ∈ ss, s.ok b
  one : dials ss ≤ if spot < i then 1 else 0
theorem Lap.jar {b : Int} {S : List Addr} {l : Addr} {i : Nat} {spot : Int} {H H' : Hp} {vs : List V} {ss : List Stg} (h : Lap b S l i spot H vs ss) (e : Jx S H H') (hl : H' l = H l) : Lap b S l i spot H' vs ss :=
  ⟨hl.trans h.at_, e.dqa h.da, h.len, h.ok, h.one⟩
/-- one more stage -/
theorem Lap.app {b : Int} {S : List Addr} {l : Addr} {i : Nat} {spot : Int} {H : Hp} {vs : List V} {ss : List Stg} {v : V} {s : Stg} (h : Lap b S l i spot H vs ss) (hS : l ∈ S) (hv : Dq (hid S H) v s.d) (hs : s.ok b)
    (hd : s.isDial = true → (i : Int) = spot) : Lap b S l (i + 1) spot (upd H l (.lst (vs ++ [v]))) (vs ++ [v]) (ss ++ [s]) := by
  refine ⟨upd_same, ?_, by rw [List.length_append, h.len]; rfl, fun x hx => ?_, ?_⟩
  · rw [hid_upd hS, List.map_append]
    exact h.da.app (.one hv)
  · rcases List.mem_append.mp hx with hx | hx
    · exact h.ok x hx
    · rw [List.mem_singleton.mp hx]; exact hs
  · have h1 := h.one
    rw [dials_app]
    by_cases q : s.isDial = true
    · have := hd q
      rw [if_pos q, if_pos (by omega)]
      rw [if_neg (by omega)] at h1
      omega
    · rw [if_neg q]
      by_cases z : spot < (i : Int)
      · rw [if_pos z] at h1; rw [if_pos (by omega)]; omega
      · rw [if_neg z] at h1
        have : dials ss = 0 := by omega
        rw [this]
        split <;> omega
theorem Jx_free {S : List Addr} {H H' : Hp} {t : Addr} (e : Jx S H H') (h : H' t = none) (ht : ∀ s ∈ S, H' s ≠ none) : H t = none := by
  cases q : H t with
  | none => rfl
  | some o =>
    have := e.get q fun z => ht t z h
    rw [h] at this
    cases this
theorem dqa_snoc {H : Hp} : ∀ {vs : List V} {ds : List PyData} {d : PyData}, DqAll H vs (ds ++ [d]) → ∃ vs0 v, vs = vs0 ++ [v] ∧ DqAll H vs0 ds ∧ Dq H v d
  | _, [], d, .cons (v := v) h k => by cases k; exact ⟨[], v, rfl, .nil, h⟩
  | _, e :: ds, d, .cons (v := v) h k => by
    obtain ⟨vs0, w, rfl, h1, h2⟩ := dqa_snoc k
    exact ⟨v :: vs0, w, rfl, .cons h h1, h2⟩
theorem stgs_nil (ss : List Stg) : PyData.eqv (.list (ss.map Stg.d)) (.list []) = ss.isEmpty := by cases ss <;> simp [PyData.eqv, PyData.eqvAll]
/-- the name of a stage -/
def Stg.nm : Stg → Str
  | .mix _ => "mix"
  | .dial _ => "dial"
  | .pass _ _ => "pass"
theorem stg_nm {H : Hp} {v : V} {s : Stg} (h : Dq H v s.d) : ∃ a xs, v = .ref a ∧ Rd H a (.tup xs) ∧ atI xs 0 = some (.str s.nm) := by
  obtain ⟨a, rfl, h⟩ := stg_at h
  cases s with
  | mix lo => exact ⟨_, _, rfl, h, rfl⟩
  | dial lo => exact ⟨_, _, rfl, h, rfl⟩
  | pass lo hi => exact ⟨_, _, rfl, h, rfl⟩
theorem nm_dial (s : Stg) : decide (V.str s.nm = V.str "dial") = s.isDial := by
  cases s with
  | mix lo => exact (by decide +kernel : decide (V.str "mix" = V.str "dial") = false)
  | dial lo => exact (by decide +kernel : decide (V.str "dial" = V.str "dial") = true)
  | pass lo hi => exact (by decide +kernel : decide (V.str "pass" = V.str "dial") = false)
theorem strs_ok : PyData.strOk "mix" = true ∧ PyData.strOk "dial" = true ∧ PyData.strOk "pass" = true := by decide +kernel
theorem lay_stg : ∀ s : Stg, s.d.canLay0 = true
  | .mix lo => by simp [Stg.d, PyData.canLay0, PyData.canLayAll0, strs_ok]
  | .dial lo => by simp [Stg.d, PyData.canLay0, PyData.canLayAll0, strs_ok]
  | .pass lo hi => by simp [Stg.d, PyData.canLay0, PyData.canLayAll0, strs_ok]
theorem depth_stg : ∀ s : Stg, s.d.depth = 1
  | .mix lo => rfl
  | .dial lo => rfl
  | .pass lo hi => rfl
theorem lay_stgs : ∀ ss : List Stg, PyData.canLayAll0 (ss.map Stg.d) = true ∧ PyData.depthAll (ss.map Stg.d) ≤ 1
  | [] => ⟨rfl, Nat.zero_le _⟩
  | s :: ss => by
    obtain ⟨h1, h2⟩ := lay_stgs ss
    refine ⟨by rw [List.map_cons, PyData.canLayAll0, lay_stg, h1]; rfl, ?_⟩
    rw [List.map_cons, PyData.depthAll, depth_stg]
    omega
theorem shaped_stgs (ss : List Stg) : SeqAt.shaped (.list (ss.map Stg.d)) = true := by
  obtain ⟨h1, h2⟩ := lay_stgs ss
  unfold SeqAt.shaped
  rw [Bool.and_eq_true]
  refine ⟨by simpa [PyData.canLay0] using h1, decide_eq_true ?_⟩
  rw [PyData.depth]
  omega
theorem menu_int (xs : List Int) (lo hi : Int) {u : Int} (h0 : 0 ≤ u) (h1 : u < xs.length) (hb : ∀ x ∈ xs, lo ≤ x ∧ x ≤ hi) : ∃ x, atI (xs.map V.int) u = some (.int x) ∧ lo ≤ x ∧ x ≤ hi := by
  obtain ⟨k, rfl⟩ : ∃ k : Nat, u = k := ⟨u.toNat, by omega⟩
  have hk : k < xs.length := by omega
  exact ⟨xs[k], atI_nat (by rw [List.getElem?_map, List.getElem?_eq_getElem hk]; rfl), hb _ (List.getElem_mem hk)⟩
theorem JarAt.obj {n : Nat} {H : Hp} {j : Addr} (h : JarAt n H j) : ∃ o, H j = some o := let ⟨_, _, _, h, _⟩ := h; ⟨_, h⟩
theorem JarAt.fresh {n : Nat} {H H' : Hp} {j t : Addr} (J : JarAt n H' j) (e : Jx [j] H H') (h : H' t = none) : H t = none :=
  Jx_free e h fun s hs z => by
    obtain rfl : s = j := by simpa using hs
    obtain ⟨o, q⟩ := J.obj
    rw [z] at q
    cases q
theorem JarAt.keep {n : Nat} {H H' : Hp} {j : Addr} (h : JarAt n H j) (e : H' j = H j) : JarAt n H' j := let ⟨a, b, c, h, r⟩ := h; ⟨a, b, c, e.trans h, r⟩
theorem pick_go {j : Addr} {bound : Int} {n : Nat} {H : Hp} {Q : VK} {E : XK} (hJ : JarAt n H j) (hn : n < 2 ^ 50) (h0 : 0 < bound) (h1 : bound < 2 ^ 400)
    (k : ∀ (r : Int) (H' : Hp), 0 ≤ r → r < bound → JarAt (n + 1) H' j → Jx [j] H H' → Q (.int r) H') : spPick ([.ref j, .int bound] ++ []) H Q E := ⟨j, bound, n, rfl, hJ, hn, h0, h1, k⟩
theorem Lap.lay {b : Int} {S : List Addr} {l p : Addr} {i : Nat} {spot : Int} {H : Hp} {o : HO} {vs : List V} {ss : List Stg} (h : Lap b S l i spot H vs ss) (hp : H p = none) : Lap b S l i spot (upd H p o) vs ss :=
  h.jar (Jx.new hp) (upd_ne (fresh_ne h.at_ hp).symm)
theorem Lap.pick {b : Int} {l j : Addr} {i : Nat} {spot : Int} {H H' : Hp} {vs : List V} {ss : List Stg} (h : Lap b [l, j] l i spot H vs ss) (hlj : l ≠ j) (e : Jx [j] H H') : Lap b [l, j] l i spot H' vs ss :=
  h.jar (e.more (by simp)) ((e.get h.at_ (nin1 hlj)).trans h.at_.symm)
abbrev s__law_radio : Stmt := top 27
theorem sc__law_radio : FnScope ["jar", "most", "far", "stages", "spot", "lap", "kind", "low"] ["jar", "most", "far"] (defScope s__law_radio) := ⟨rfl, rfl, rfl, by decide +kernel, rfl, by decide +kernel, by decide +kernel⟩
theorem ok_radio {f : Addr} {fd : FuncData} (F : Fun K "_law_radio" "_law_radio" s__law_radio f fd) (m_range : mg "range" = none) (h__law_pick : Has P w K mg base 1 "_law_pick" spPick) :
    FnOk P w K mg base CX0 2 f fd ["jar", "most", "far"] spRadio := by
  refine F.ok sc__law_radio (fun vs H Q E h => ?_) (fun cdv A outer s H vs Q E hr h => ?_)
  · obtain ⟨j, most, far, n, rfl, _⟩ := h
    rfl
  · obtain ⟨j, most, far, n, rfl, hJ, hn, hm1, hm8, hf1, hf2, k⟩ := h
    refine ⟨_, (pss_cons (ps_par (i := 3) (j := 4) (by rfl) sc__law_radio.nd rfl rfl (by decide) rfl rfl (pa_cons (pe_lst pa_nil) (pa_cons (pe_hs h__law_pick hr rfl (pa_cons (pv 0) (pa_cons (pe_op op_mul pe_int (pv 1)) pa_nil))) pa_nil)) (by rfl))
  (pss_cons (ps_for PassesOwn.never rfl (pi_range1 (by rfl) m_range (pa_cons (pe_op op_add pe_int (pe_hs h__law_pick hr rfl (pa_cons (pv 0) (pa_cons (pv 1) pa_nil)))) pa_nil)) (pg_name (i := 5) sc__law_radio.nd rfl (Or.inl rfl))
  (pss_cons (ps_par (i := 6) (j := 7) (by rfl) sc__law_radio.nd rfl rfl (by decide) rfl rfl (pa_cons (pe_hs h__law_pick hr rfl (pa_cons (pv 0) (pa_cons pe_int pa_nil))) (pa_cons (pe_ix ix_list (pe_lst (pa_cons pe_int (pa_cons (pe_hs h__law_pick hr rfl (pa_cons (pv 0) (pa_cons (pv 2) pa_nil))) pa_nil))) (pe_hs h__law_pick hr rfl (pa_cons (pv 0) (pa_cons pe_int pa_nil))) (fun _ _ => rfl)) pa_nil)) (by rfl))
  (pss_one (ps_if (pt_cmpR op_eq (pv 5) (pv 4) (nomark _))
  (pss_one (ps_expr (pe_bm PySem.F.plainAttrs_list PySem.F.slot_list_append PySem.F.type_list_append mt_append (pv 3) (pa_cons (pe_tup (pa_cons pe_str (pa_cons (pe_op op_sub (pe_hs h__law_pick hr rfl (pa_cons (pv 0) (pa_cons (pe_op op_add (pe_op op_mul pe_int (pv 2)) pe_int) pa_nil))) (pv 2)) pa_nil))) pa_nil))))
  (pss_one (ps_if (pt_cmpR op_eq (pv 6) pe_int (nomark _))
  (pss_one (ps_expr (pe_bm PySem.F.plainAttrs_list PySem.F.slot_list_append PySem.F.type_list_append mt_append (pv 3) (pa_cons (pe_tup (pa_cons pe_str (pa_cons (pv 7) (pa_cons (pe_op op_add (pv 7) (pe_ix ix_list (pe_lst (pa_cons pe_int (pa_cons pe_int (pa_cons (pe_hs h__law_pick hr rfl (pa_cons (pv 0) (pa_cons (pe_op op_add (pv 2) pe_int) pa_nil))) (pa_cons (pe_op op_mul pe_int (pv 2)) pa_nil))))) (pe_hs h__law_pick hr rfl (pa_cons (pv 0) (pa_cons pe_int pa_nil))) (fun _ _ => rfl))) pa_nil)))) pa_nil))))
  (pss_one (ps_if (PW.pt (pw_and (pt_cmpR op_eq (pv 6) pe_int (nomark _)) (pw_and (pt_cmpR (op_neD hr.units) (pv 3) (pe_lst pa_nil) (nomark _)) (pw_and1 (pt_cmpR op_ne (pe_ix ix_tup (pe_ix ix_list (pv 3) (pe_un un_neg pe_int) (fun _ _ => rfl)) pe_int (fun _ _ => rfl)) pe_str (nomark _))))))
  (pss_one (ps_expr (pe_bm PySem.F.plainAttrs_list PySem.F.slot_list_append PySem.F.type_list_append mt_append (pv 3) (pa_cons (pe_ix ix_list (pv 3) (pe_un un_neg pe_int) (fun _ _ => rfl)) pa_nil))))
  (pss_one (ps_expr (pe_bm PySem.F.plainAttrs_list PySem.F.slot_list_append PySem.F.type_list_append mt_append (pv 3) (pa_cons (pe_tup (pa_cons pe_str (pa_cons (pe_ix ix_list (pe_lst (pa_cons pe_int (pa_cons pe_int (pa_cons (pe_hs h__law_pick hr rfl (pa_cons (pv 0) (pa_cons (pe_op op_add (pv 2) pe_int) pa_nil))) (pa_cons (pe_hs h__law_pick hr rfl (pa_cons (pv 0) (pa_cons (pe_op op_add (pv 2) pe_int) pa_nil))) pa_nil))))) (pe_hs h__law_pick hr rfl (pa_cons (pv 0) (pa_cons pe_int pa_nil))) (fun _ _ => rfl)) pa_nil))) pa_nil))))))))))))
  (pss_one (ps_ret (pe_tup (pa_cons (pv 3) (pa_cons (pe_ix ix_list (pe_lst (pa_cons pe_non (pa_cons pe_non (pa_cons pe_int (pa_cons pe_int (pa_cons (pe_op op_add pe_int (pe_hs h__law_pick hr rfl (pa_cons (pv 0) (pa_cons pe_int pa_nil)))) (pa_cons (pe_op op_add pe_int (pe_hs h__law_pick hr rfl (pa_cons (pv 0) (pa_cons (pv 2) pa_nil)))) pa_nil))))))) (pe_hs h__law_pick hr rfl (pa_cons (pv 0) (pa_cons pe_int pa_nil))) (fun _ _ => rfl)) pa_nil))))))), ?_⟩
    walk_at "rd"
    intro l hl
    have hlj : l ≠ j := fresh_ne hJ.obj.choose_spec hl
    have hJ0 : JarAt n (upd H l (.lst [])) j := hJ.keep (upd_ne hlj.symm)
    have hL : Lap (10 * far + 20) [l, j] l 0 (-1) (upd H l (.lst [])) [] [] := ⟨upd_same, .nil, rfl, (fun _ h => nomatch h), Nat.zero_le _⟩
    walk_at "rd"
    refine pick_go hJ0 (by omega) (by omega) (by omega) fun spot H1 s0 s1 hJ1 x1 => ?_
    walk_at "rd"
    refine pick_go hJ1 (by omega) (by omega) (by omega) fun laps H2 t0 t1 hJ2 x2 => ?_
    walk_at "rd"
    refine ⟨by omega, by omega, ?_⟩
    have hL2 : Lap (10 * far + 20) [l, j] l 0 spot H2 [] [] :=
      ⟨((hL.pick hlj x1).pick hlj x2).at_, .nil, rfl, (fun _ h => nomatch h), Nat.zero_le _⟩
    have hX2 : Jx [l, j] H H2 := ((Jx.new hl).tr (x1.more (by simp))).tr (x2.more (by simp))
    refine run_forR (fun i σ G => ∃ (vs : List V) (ss : List Stg) (v5 v6 v7 : Option V), σ = [some (.ref j), some (.int most), some (.int far), some (.ref l), some (.int spot), v5, v6, v7] ∧
        Lap (10 * far + 20) [l, j] l i spot G vs ss ∧ JarAt (n + 2 + 6 * i) G j ∧ Jx [l, j] H G) ?_ ?_ ?_
    · exact ⟨[], [], _, _, _, rfl, hL2, hJ2.mono (by omega), hX2⟩
    · rintro i σ G hi ⟨vs, ss, v5, v6, v7, rfl, L, hJi, X⟩
      have hi8 : i < 8 := by omega
      walk_at "rd"
      refine pick_go hJi (by omega) (by omega) (by omega) fun kind G1 k0 k1 J1 y1 => ?_
      have L1 := L.pick hlj y1
      refine go_cons ?_
      -- [0, pick(far)][pick(2)]
      refine cut_e (te := tOp _ _ _) (fun v G3 => ∃ low : Int, v = .int low ∧ 0 ≤ low ∧ low ≤ far ∧ Lap (10 * far + 20) [l, j] l i spot G3 vs ss ∧ JarAt (n + 5 + 6 * i) G3 j ∧ Jx [l, j] G1 G3) (fun Q' q => ?_) ?_
      · walk_at "rd"
        refine pick_go J1 (by omega) (by omega) (by omega) fun z G2 z0 z1 J2 y2 => ?_
        have L2' := L1.pick hlj y2
        walk_at "rd"
        intro p hp
        have hpj : p ≠ j := fresh_ne J2.obj.choose_spec hp
        have L3 := L2'.lay (o := .lst [.int 0, .int z]) hp
        have hJ3 := J2.keep (upd_ne (o := .lst [.int 0, .int z]) (H := G2) hpj.symm)
        walk_at "rd"
        refine pick_go hJ3 (by omega) (by omega) (by omega) fun u G3 u0 u1 J3 y3 => ?_
        have hp3 := y3.get (upd_same (H := G2) (a := p) (o := .lst [.int 0, .int z])) (nin1 hpj)
        have fin : ∀ low : Int, 0 ≤ low → low ≤ far → Q' (.int low) G3 := fun low l0 l1 =>
          q _ _ ⟨low, rfl, l0, l1, L3.pick hlj y3, J3.mono (by omega), ((y2.more (by simp)).tr (Jx.new hp)).tr (y3.more (by simp))⟩
        rcases (by omega : u = 0 ∨ u = 1) with rfl | rfl
        · exact go_ixL (.inl hp3) rfl (fin _ (by omega) (by omega))
        · exact go_ixL (.inl hp3) rfl (fin _ (by omega) (by omega))
      · rintro v G3 ⟨low, rfl, l0, l1, L3, J3, y3⟩
        have X3 : Jx [l, j] H G3 := (X.tr (y1.more (by simp))).tr y3
        have fin : ∀ (G' : Hp) (v : V) (s : Stg), Lap (10 * far + 20) [l, j] l i spot G' vs ss → JarAt (n + 8 + 6 * i) G' j → Jx [l, j] H G' → Dq (hid [l, j] G') v s.d → s.ok (10 * far + 20) → (s.isDial = true → (i : Int) = spot) →
            ∃ (vs' : List V) (ss' : List Stg) (v5 v6 v7 : Option V), [some (.ref j), some (.int most), some (.int far), some (.ref l), some (.int spot), some (V.int (0 + (i : Int))), some (V.int kind), some (V.int low)] = [some (.ref j), some (.int most), some (.int far), some (.ref l), some (.int spot), v5, v6, v7] ∧
              Lap (10 * far + 20) [l, j] l (i + 1) spot (upd G' l (.lst (vs ++ [v]))) vs' ss' ∧ JarAt (n + 2 + 6 * (i + 1)) (upd G' l (.lst (vs ++ [v]))) j ∧ Jx [l, j] H (upd G' l (.lst (vs ++ [v]))) :=
          fun G' v s L' J' X' hv hs hd => ⟨_, _, _, _, _, rfl, L'.app (by simp) hv hs hd, (J'.mono (by omega)).keep (upd_ne hlj.symm), X'.tr (Jx.upd (by simp))⟩
        have hl3 := L3.at_
        have hvs : vs.length < sizeLine := by
          have e1 := L3.da.len
          have e2 := L3.len
          rw [List.length_map] at e1
          exact Nat.lt_of_lt_of_le (by omega : vs.length < 9) (by decide)
        have hfin : ∀ (G' : Hp) (q : Addr) (s : Stg) (m : Nat), Lap (10 * far + 20) [l, j] l i spot G' vs ss → JarAt m G' j → m ≤ n + 8 + 6 * i → Jx [l, j] H G' → G' q = none → s.ok (10 * far + 20) → (s.isDial = true → (i : Int) = spot) →
            ∃ (vs' : List V) (ss' : List Stg) (v5 v6 v7 : Option V), [some (.ref j), some (.int most), some (.int far), some (.ref l), some (.int spot), some (V.int (0 + (i : Int))), some (V.int kind), some (V.int low)] = [some (.ref j), some (.int most), some (.int far), some (.ref l), some (.int spot), v5, v6, v7] ∧
              Lap (10 * far + 20) [l, j] l (i + 1) spot (upd (upd G' q (.tup s.vals)) l (.lst (vs ++ [.ref q]))) vs' ss' ∧ JarAt (n + 2 + 6 * (i + 1)) (upd (upd G' q (.tup s.vals)) l (.lst (vs ++ [.ref q]))) j ∧ Jx [l, j] H (upd (upd G' q (.tup s.vals)) l (.lst (vs ++ [.ref q]))) :=
          fun G' q s m L' J' hm X' hq hs hd => fin _ _ s (L'.lay hq) ((J'.mono hm).keep (upd_ne (fresh_ne J'.obj.choose_spec hq).symm)) (X'.tr (Jx.new hq)) (dq_stg upd_same (nin2 (fresh_ne L'.at_ hq) (fresh_ne J'.obj.choose_spec hq))) hs hd
        walk_at "rd"
        refine ite2 (fun c => ?_) (fun c => ?_)
        · -- a dial
          have hsp : (i : Int) = spot := by simpa using c
          walk_at "rd"
          refine pick_go J3 (by omega) (by omega) (by omega) fun x G4 x0 x1 J4 y4 => ?_
          have L4 := L3.pick hlj y4
          walk_at "rd"
          intro q hq
          walk_at "rd"
          refine go_app (L4.lay hq).at_ hvs ?_
          exact hfin G4 q (.dial (x - far)) _ L4 J4 (by omega) (X3.tr (y4.more (by simp))) hq ⟨by omega, by omega⟩ (fun _ => hsp)
        · walk_at "rd"
          refine ite2 (fun c2 => ?_) (fun c2 => ?_)
          · -- a pass
            walk_at "rd"
            refine pick_go J3 (by omega) (by omega) (by omega) fun z G4 z0 z1 J4 y4 => ?_
            have L4 := L3.pick hlj y4
            walk_at "rd"
            intro p hp
            have hpj : p ≠ j := fresh_ne J4.obj.choose_spec hp
            have L5 := L4.lay (o := .lst [.int 0, .int 1, .int z, .int (9 * far)]) hp
            have J5 := J4.keep (upd_ne (o := .lst [.int 0, .int 1, .int z, .int (9 * far)]) (H := G4) hpj.symm)
            walk_at "rd"
            refine pick_go J5 (by omega) (by omega) (by omega) fun u G6 u0 u1 J6 y6 => ?_
            have hp6 := y6.get (upd_same (H := G4) (a := p) (o := .lst [.int 0, .int 1, .int z, .int (9 * far)])) (nin1 hpj)
            have L6 := L5.pick hlj y6
            obtain ⟨hi, e, hi0, hi1⟩ := menu_int [0, 1, z, 9 * far] 0 (9 * far + 1) u0 (by simpa using u1) (by simp; omega)
            refine go_ixL (.inl hp6) e ?_
            walk_at "rd"
            intro q hq
            walk_at "rd"
            refine go_app (L6.lay hq).at_ hvs ?_
            exact hfin G6 q (.pass low (low + hi)) _ L6 J6 (by omega) (((X3.tr (y4.more (by simp))).tr (Jx.new hp)).tr (y6.more (by simp))) hq ⟨by omega, by omega, by omega⟩ (fun z => nomatch z)
          · -- the same once more, or a mixer
            refine go_ifS ?_
            refine cut_t (tt := tAnd _ _) (fun b G4 => (b = true → ∃ vs0 v ss0 s, vs = vs0 ++ [v] ∧ ss = ss0 ++ [s] ∧ s.isDial = false) ∧ Lap (10 * far + 20) [l, j] l i spot G4 vs ss ∧ JarAt (n + 5 + 6 * i) G4 j ∧ Jx [l, j] H G4) (fun Q' q => ?_) ?_
            · walk_at "rd"
              refine ite2 (fun c3 => ?_) (fun c3 => q _ _ ⟨(fun z => nomatch z), L3, J3, X3⟩)
              walk_at "rd"
              intro p hp
              have L4 := L3.lay (o := .lst []) hp
              have J4 := J3.keep (upd_ne (o := .lst []) (H := G3) (fresh_ne J3.obj.choose_spec hp).symm)
              have X4 := X3.tr (Jx.new (o := .lst []) hp)
              refine go_neD (.lst (.inl L4.at_) (L4.da.ex hid_ex)) (.lst (.inl upd_same) .nil) (shaped_stgs ss) (by decide +kernel) ?_
              rw [stgs_nil]
              walk_at "rd"
              rcases List.eq_nil_or_concat ss with rfl | ⟨ss0, s, rfl⟩
              · exact iteF (q _ _ ⟨(fun z => nomatch z), L4, J4.mono (by omega), X4⟩)
              · have hda := L4.da
                rw [List.concat_eq_append, List.map_append] at hda
                obtain ⟨vs0, v, rfl, _, hv⟩ := dqa_snoc hda
                obtain ⟨a, xs, rfl, ha, hx⟩ := stg_nm (hv.ex hid_ex)
                rw [List.concat_eq_append]
                rw [if_pos (by cases ss0 <;> rfl)]
                have hl4 := L4.at_
                walk_at "rd"
                refine go_ixL (.inl hl4) (atI_last vs0 _) ?_
                walk_at "rd"
                try refine go_ixT ha hx ?_
                walk_at "rd"
                rw [nm_dial]
                refine q _ _ ⟨fun z => ⟨vs0, _, ss0, s, rfl, by simp, by simpa using z⟩, by simpa using L4, J4.mono (by omega), X4⟩
            · rintro b G4 ⟨hb, L4, J4, X4⟩
              refine ite2 (fun c4 => ?_) (fun c4 => ?_)
              · obtain ⟨vs0, v, ss0, s, rfl, rfl, hs⟩ := hb c4
                have hl4 := L4.at_
                have hda := L4.da
                rw [List.map_append] at hda
                obtain ⟨vs1, v1, ev, _, hv⟩ := dqa_snoc hda
                obtain ⟨rfl, e1⟩ := List.append_inj' ev rfl
                obtain rfl : v = v1 := by simpa using e1
                walk_at "rd"
                refine go_ixL (.inl hl4) (atI_last vs0 _) ?_
                walk_at "rd"
                refine go_app hl4 hvs ?_
                exact fin G4 v s L4 (J4.mono (by omega)) X4 hv (L4.ok s (by simp)) (fun z => by rw [hs] at z; cases z)
              · have hl4 := L4.at_
                walk_at "rd"
                refine pick_go J4 (by omega) (by omega) (by omega) fun z1 G5 z10 z11 J5 y5 => ?_
                have L5 := L4.pick hlj y5
                walk_at "rd"
                refine pick_go J5 (by omega) (by omega) (by omega) fun z2 G6 z20 z21 J6 y6 => ?_
                have L6 := L5.pick hlj y6
                walk_at "rd"
                intro p hp
                have hpj : p ≠ j := fresh_ne J6.obj.choose_spec hp
                have L7 := L6.lay (o := .lst [.int 0, .int 1, .int z1, .int z2]) hp
                have J7 := J6.keep (upd_ne (o := .lst [.int 0, .int 1, .int z1, .int z2]) (H := G6) hpj.symm)
                walk_at "rd"
                refine pick_go J7 (by omega) (by omega) (by omega) fun u G8 u0 u1 J8 y8 => ?_
                have hp8 := y8.get (upd_same (H := G6) (a := p) (o := .lst [.int 0, .int 1, .int z1, .int z2])) (nin1 hpj)
                have L8 := L7.pick hlj y8
                obtain ⟨lo, e, lo0, lo1⟩ := menu_int [0, 1, z1, z2] 0 (far + 1) u0 (by simpa using u1) (by simp; omega)
                refine go_ixL (.inl hp8) e ?_
                walk_at "rd"
                intro q hq
                walk_at "rd"
                refine go_app (L8.lay hq).at_ hvs ?_
                exact hfin G8 q (.mix lo) _ L8 J8 (by omega) ((((X4.tr (y5.more (by simp))).tr (y6.more (by simp))).tr (Jx.new hp)).tr (y8.more (by simp))) hq ⟨by omega, by omega⟩ (fun z => nomatch z)
    · rintro σ G ⟨vs, ss, v5, v6, v7, rfl, L, hJi, X⟩
      have hle : (1 + laps).toNat ≤ 8 := by omega
      have hX0 : Jx [j] H G := Jx.less (X.more (by simp)) hl
      walk_at "rd"
      refine pick_go hJi (by omega) (by omega) (by omega) fun z1 G1 z10 z11 J1 y1 => ?_
      have L1 := L.pick hlj y1
      walk_at "rd"
      refine pick_go J1 (by omega) (by omega) (by omega) fun z2 G2 z20 z21 J2 y2 => ?_
      have L2 := L1.pick hlj y2
      walk_at "rd"
      intro p hp
      have hpj : p ≠ j := fresh_ne J2.obj.choose_spec hp
      have L3 := L2.lay (o := .lst [.non, .non, .int 2, .int 3, .int (2 + z1), .int (2 + z2)]) hp
      have J3 := J2.keep (upd_ne (o := .lst [.non, .non, .int 2, .int 3, .int (2 + z1), .int (2 + z2)]) (H := G2) hpj.symm)
      walk_at "rd"
      refine pick_go J3 (by omega) (by omega) (by omega) fun u G4 u0 u1 J4 y4 => ?_
      have hp4 := y4.get (upd_same (H := G2) (a := p) (o := .lst [.non, .non, .int 2, .int 3, .int (2 + z1), .int (2 + z2)])) (nin1 hpj)
      have L4 := L3.pick hlj y4
      have hX4 : Jx [j] H G4 := ((hX0.tr (y1.tr y2)).tr (Jx.new hp)).tr y4
      have fin : ∀ (v : V) (rate : Option Int), atI [.non, .non, .int 2, .int 3, .int (2 + z1), .int (2 + z2)] u = some v → (∀ r, rate = some r → 2 ≤ r ∧ r ≤ 10 * far + 20) → Dq (fun _ => none) v (rateD rate) →
          ∀ t, G4 t = none → Q (.ref t) (upd G4 t (.tup [.ref l, v])) := fun v rate _ hr hv t ht => by
        have htj : t ≠ j := fresh_ne J4.obj.choose_spec ht
        have htl : t ≠ l := fresh_ne L4.at_ ht
        have L5 := L4.lay (o := .tup [.ref l, v]) ht
        have hlen := L4.len
        refine k t ss rate _ ⟨fun z => ?_, by omega, L4.ok, ?_, hr⟩ (by omega) ?_ (J4.fresh hX4 ht) ((J4.mono (by omega)).keep (upd_ne htj.symm)) (hX4.tr (Jx.new ht))
        · subst z
          simp at hlen
          omega
        · have := L4.one
          split at this <;> omega
        · refine .tup (.inl (by rw [hid_ne (nin1 htj)]; exact upd_same)) (.cons (.lst (.inl (by rw [hid_ne (nin1 hlj)]; exact L5.at_)) (L5.da.ex (hid_sub (by simp)))) (.cons (hv.ex (fun _ _ z => absurd z (by simp))) .nil))
      have rr : ∀ r : Int, 2 ≤ r → r ≤ 10 * far + 20 → ∀ r', some r = some r' → 2 ≤ r' ∧ r' ≤ 10 * far + 20 := fun r h1 h2 r' e => by
        cases e
        exact ⟨h1, h2⟩
      have cc : u = 0 ∨ u = 1 ∨ u = 2 ∨ u = 3 ∨ u = 4 ∨ u = 5 := by omega
      obtain ⟨v, rate, hv, hr, hd⟩ : ∃ (v : V) (rate : Option Int), atI [.non, .non, .int 2, .int 3, .int (2 + z1), .int (2 + z2)] u = some v ∧ (∀ r, rate = some r → 2 ≤ r ∧ r ≤ 10 * far + 20) ∧ Dq (fun _ => none) v (rateD rate) := by
        rcases cc with rfl | rfl | rfl | rfl | rfl | rfl
        · exact ⟨.non, none, rfl, (fun _ z => nomatch z), .non⟩
        · exact ⟨.non, none, rfl, (fun _ z => nomatch z), .non⟩
        · exact ⟨_, some 2, rfl, rr _ (by omega) (by omega), .int _⟩
        · exact ⟨_, some 3, rfl, rr _ (by omega) (by omega), .int _⟩
        · exact ⟨_, some (2 + z1), rfl, rr _ (by omega) (by omega), .int _⟩
        · exact ⟨_, some (2 + z2), rfl, rr _ (by omega) (by omega), .int _⟩
      refine go_ixL (.inl hp4) hv ?_
      walk_at "rd"
      exact fin v rate hv hr hd
end
end Kx

set_option Elab.async false
set_option linter.all false
set_option maxRecDepth 100000
namespace HX
open PySem PySem.Spec PyProof.Rows L2
open Evl (Ex)
/-! ### isinstance of data -/
def tyNm : PyData → String
  | .none => "NoneType"
  | .bool _ => "bool"
  | .int _ => "int"
  | .str _ => "str"
  | .list _ => "list"
  | .tuple _ => "tuple"
  | .dict _ => "dict"
theorem Dq.ty {K : PySem.W.Frag} {H : Hp} {x : V} {d : PyData} (h : Dq H x d) : TyX K H x (.type (tyNm d)) := by
  cases h with
  | non => exact .base .non
  | bl b => exact .base (.bl b)
  | int i => exact .base (.int i)
  | str y => exact .base (.str y)
  | lst h k => rcases h with h | ⟨o, h⟩
               · exact .base (.lst h)
               · exact .base (.frz h)
  | tup h k => rcases h with h | ⟨o, h⟩
               · exact .base (.tup h)
               · exact .fTuple h
  | dic h => exact .base (.dK h)
theorem go_isi {K : PySem.W.Frag} {H : Hp} {x : V} {d : PyData} {T : String} {b : Bool} {Q : VK} (h : Dq H x d) (e : kitB (tyNm d) T = some b) (q : Q (.bl b) H) : rIsi K [x, .ty T] H Q :=
  ⟨x, .ty T, _, _, b, rfl, .ty T, h.ty, kit_ty e, q⟩
def pInt : PyData → Bool
  | .int _ => true
  | .bool _ => true
  | _ => false
theorem kit_int (d : PyData) : kitB (tyNm d) "int" = some (pInt d) := by
  cases d with
  | none => exact (by decide +kernel : kitB "NoneType" "int" = some false)
  | bool _ => exact (by decide +kernel : kitB "bool" "int" = some true)
  | int _ => exact (by decide +kernel : kitB "int" "int" = some true)
  | str _ => exact (by decide +kernel : kitB "str" "int" = some false)
  | list _ => exact (by decide +kernel : kitB "list" "int" = some false)
  | tuple _ => exact (by decide +kernel : kitB "tuple" "int" = some false)
  | dict _ => exact (by decide +kernel : kitB "dict" "int" = some false)
def pBool : PyData → Bool
  | .bool _ => true
  | _ => false
theorem kit_bool (d : PyData) : kitB (tyNm d) "bool" = some (pBool d) := by
  cases d with
  | none => exact (by decide +kernel : kitB "NoneType" "bool" = some false)
  | bool _ => exact (by decide +kernel : kitB "bool" "bool" = some true)
  | int _ => exact (by decide +kernel : kitB "int" "bool" = some false)
  | str _ => exact (by decide +kernel : kitB "str" "bool" = some false)
  | list _ => exact (by decide +kernel : kitB "list" "bool" = some false)
  | tuple _ => exact (by decide +kernel : kitB "tuple" "bool" = some false)
  | dict _ => exact (by decide +kernel : kitB "dict" "bool" = some false)
def pStr : PyData → Bool
  | .str _ => true
  | _ => false
theorem kit_str (d : PyData) : kitB (tyNm d) "str" = some (pStr d) := by
  cases d with
  | none => exact (by decide +kernel : kitB "NoneType" "str" = some false)
  | bool _ => exact (by decide +kernel : kitB "bool" "str" = some false)
  | int _ => exact (by decide +kernel : kitB "int" "str" = some false)
  | str _ => exact (by decide +kernel : kitB "str" "str" = some true)
  | list _ => exact (by decide +kernel : kitB "list" "str" = some false)
  | tuple _ => exact (by decide +kernel : kitB "tuple" "str" = some false)
  | dict _ => exact (by decide +kernel : kitB "dict" "str" = some false)
def pList : PyData → Bool
  | .list _ => true
  | _ => false
theorem kit_list (d : PyData) : kitB (tyNm d) "list" = some (pList d) := by
  cases d with
  | none => exact (by decide +kernel : kitB "NoneType" "list" = some false)
  | bool _ => exact (by decide +kernel : kitB "bool" "list" = some false)
  | int _ => exact (by decide +kernel : kitB "int" "list" = some false)
  | str _ => exact (by decide +kernel : kitB "str" "list" = some false)
  | list _ => exact (by decide +kernel : kitB "list" "list" = some true)
  | tuple _ => exact (by decide +kernel : kitB "tuple" "list" = some false)
  | dict _ => exact (by decide +kernel : kitB "dict" "list" = some false)
def pTuple : PyData → Bool
  | .tuple _ => true
  | _ => false
theorem kit_tuple (d : PyData) : kitB (tyNm d) "tuple" = some (pTuple d) := by
  cases d with
  | none => exact (by decide +kernel : kitB "NoneType" "tuple" = some false)
  | bool _ => exact (by decide +kernel : kitB "bool" "tuple" = some false)
  | int _ => exact (by decide +kernel : kitB "int" "tuple" = some false)
  | str _ => exact (by decide +kernel : kitB "str" "tuple" = some false)
  | list _ => exact (by decide +kernel : kitB "list" "tuple" = some false)
  | tuple _ => exact (by decide +kernel : kitB "tuple" "tuple" = some true)
  | dict _ => exact (by decide +kernel : kitB "dict" "tuple" = some false)
theorem tuple_or (d : PyData) : (∃ ds, d = .tuple ds) ∨ pTuple d = false := by
  cases d with
  | tuple ds => exact .inl ⟨_, rfl⟩
  | _ => exact .inr rfl
theorem str_or (d : PyData) : (∃ x, d = .str x) ∨ pStr d = false := by
  cases d with
  | str ds => exact .inl ⟨_, rfl⟩
  | _ => exact .inr rfl
theorem list_or (d : PyData) : (∃ x, d = .list x) ∨ pList d = false := by
  cases d with
  | list ds => exact .inl ⟨_, rfl⟩
  | _ => exact .inr rfl
/-! ### a tuple unpacked -/
section
variable {K : PySem.W.Frag} {H : Hp} {σ : L2.St} {Q : L2.St → Hp → Prop} {a : Addr} {xs : List V} {n : Nat} {t : TGs} {g : TG} {v : V}
theorem go_gtup (h : SqT K H a xs) (hl : xs.length = n) (k : t xs σ H Q) : gTup K n t (.ref a) σ H Q := ⟨a, xs, rfl, h, hl, k⟩
theorem go_gcons (k : g v σ H fun σ' H' => t xs σ' H' Q) : gCons g t (v :: xs) σ H Q := ⟨v, xs, rfl, k⟩
theorem go_gnil (k : Q σ H) : gNil [] σ H Q := ⟨rfl, k⟩
end
theorem Dq.tupleAt {H : Hp} {x : V} {ds : List PyData} (h : Dq H x (.tuple ds)) : ∃ a xs, x = .ref a ∧ Rd H a (.tup xs) ∧ DqAll H xs ds := by
  cases h with
  | tup h1 h2 => exact ⟨_, _, rfl, h1, h2⟩
theorem Dq.listAt {H : Hp} {x : V} {ds : List PyData} (h : Dq H x (.list ds)) : ∃ a xs, x = .ref a ∧ Rd H a (.lst xs) ∧ DqAll H xs ds := by
  cases h with
  | lst h1 h2 => exact ⟨_, _, rfl, h1, h2⟩
/-! ### a def called by keywords alone -/
def HasK (P : Program) (w : World) (K : PySem.W.Frag) (mg : Str → Option Value) (base : Heap) (k : Nat) (x : Str) (ks : List Str) (g : List Value → List Value) (gV : List V → List V) (sp : Sp) : Prop :=
  ∃ (f : Addr) (fd : FuncData) (ps : List Str), FnOk P w K mg base CX0 k f fd ps sp ∧ mg x = some (.ref f) ∧ PySem.W.keepIn K (.ref f) = true ∧ KBn K fd ps 0 ks (fun _ ws => g ws) (fun _ zs => gV zs)
def tKw (n : Nat) (sp : Sp) (gV : List V → List V) (tk : TA) : TE := fun σ H Q => tk σ H fun zs H2 => zs.length = n ∧ sp (gV zs) H2 Q E0
section
variable {X : Cx} {k n : Nat} {sp : Sp} {x : Str} {p pos : Pos} {kws : List Keyword} {tk : TA} {ks : List Str} {g : List Value → List Value} {gV : List V → List V}
theorem pe_kw (h : HasK X.prog X.w X.K X.mg X.base k x ks g gV sp) (hr : Room n X.A) (hg : Gl X x) (hkw : PK X kws tk) (hkn : k ≤ n := by decide)
    (hall : (backToKw pos (keywordEach kws X.env)).all (·.1.isSome) = true := by rfl) (hks : (backToKw pos (keywordEach kws X.env)).filterMap (·.1) = ks := by rfl) (hdb : (x == ("__debug__" : Str)) = false := by decide)
    (hpl : ((backTo pos (starEach [] X.env)).any (·.1) || (backToKw pos (keywordEach kws X.env)).any (·.1.isNone)) = false := by rfl) :
    PE X (.Call (.Name x p) [] kws pos) (tKw ks.length sp gV tk) := by
  obtain ⟨f, fd, ps, F, hm, hk, hb⟩ := h
  refine ⟨fun pins s σ H Q I h => ?_⟩
  refine wpAny_Call_Name_kw (ld_glob I hg hm ?_ hdb)
  refine PySem.W.callWith_KW0 (h₀ := X.base) I.ok.mod.kin hk hall ?_ hpl
  refine thn (hkw.run pos pins s σ H _ I h) fun ws s2 ⟨zs, H2, I2, rz, l2, q2⟩ => ⟨I2.kIn, ?_⟩
  rw [hks]
  exact run_fnN (us := []) (vs := []) (n := 0) F (hr.mono hkn) hb pass0 I2 .nil rz rfl l2 q2
theorem go_kw {σ : L2.St} {H : Hp} {Q : VK} (h : tk σ H fun zs H2 => zs.length = n ∧ sp (gV zs) H2 Q E0) : tKw n sp gV tk σ H Q := h
end
end HX

set_option Elab.async false
set_option linter.all false
set_option maxRecDepth 100000
set_option maxHeartbeats 2000000

namespace Kx
open PySem PySem.Spec PyProof.Rows L2 HX
open Evl (Ex)
local macro_rules | `(tactic| walk_at "side") => `(tactic| first | assumption | ((try dsimp only); first | assumption | decide +kernel | omega | exact ⟨by decide, by decide⟩ | (left; decide) | (left; omega) | (refine Or.inl ⟨?_, ?_⟩ <;> omega) | (refine Or.inr ⟨?_, ?_⟩ <;> omega)))
local macro_rules | `(tactic| walk_at "heap") => `(tactic| first | assumption | exact upd_same | exact Or.inl (by assumption) | exact Or.inl upd_same)
local macro_rules | `(tactic| walk_at "item") => `(tactic| first | exact rfl | exact atI_nat (j := 0) rfl | exact atI_nat (j := 1) rfl | exact atI_nat (j := 2) rfl | assumption)
local macro_rules | `(tactic| walk_at "rd") => `(tactic| repeat (first
  | ((with_reducible refine' go_var ?hv ?_); (case hv => exact rfl))
  | with_reducible refine' go_c ?_
  | with_reducible refine' go_op ?_
  | with_reducible refine' go_seq ?_
  | with_reducible refine' go_asg ?_
  | with_reducible refine' go_name ?_
  | with_reducible refine' go_cons ?_
  | with_reducible refine' go_nil ?_
  | with_reducible refine' go_cb ?_
  | with_reducible refine' go_call ?_
  | with_reducible refine' go_ifS ?_
  | with_reducible refine' go_test ?_
  | with_reducible refine' go_bl ?_
  | with_reducible refine' go_ret ?_
  | with_reducible refine' go_I0 ?_
  | ((with_reducible refine' go_I ?cc ?_); (case cc => walk_at "side"))
  | ((with_reducible refine' go_ixL ?hh ?hk ?_); (case hh => walk_at "heap"); (case hk => walk_at "item"))
  | ((with_reducible refine' go_ixT ?hh ?hk ?_); (case hh => walk_at "heap"); (case hk => walk_at "item"))
  | ((with_reducible refine' go_lenL ?hh ?_); (case hh => walk_at "heap"))
  | ((with_reducible refine' go_lenT ?hh ?_); (case hh => walk_at "heap"))
  | ((with_reducible refine' go_setL ?hh ?hk ?_); (case hh => walk_at "heap"); (case hk => walk_at "item"))
  | with_reducible refine' go_abs ?_
  | with_reducible refine' go_max ?_
  | with_reducible refine' go_min ?_
  | with_reducible refine' go_int ?_
  | with_reducible refine' go_intB ?_
  | (with_reducible refine' go_eq rfl ?_)
  | (with_reducible refine' go_ne rfl ?_)
  | with_reducible refine' go_isN ?_
  | with_reducible refine' go_notN ?_
  | with_reducible refine' go_if ?_
  | with_reducible refine' go_sub ?_
  | with_reducible refine' go_par ?_
  | with_reducible refine' go_sl ?_
  | with_reducible refine' go_part ?_
  | with_reducible refine' go_pint ?_
  | with_reducible refine' go_nopart ?_
  | ((with_reducible refine' go_lenL ?hh ?_); (case hh => walk_at "heap"))
  | ((with_reducible refine' go_lenT ?hh ?_); (case hh => walk_at "heap"))
  | ((with_reducible refine' go_lenS ?hh ?_); (case hh => assumption))
  | with_reducible refine' go_gcons ?_
  | with_reducible refine' go_gnil ?_
  | with_reducible refine' go_kw ?_
  | with_reducible refine' go_par2 ?_
  | with_reducible refine' go_next ?_
  | with_reducible refine' go_drop ?_
  | with_reducible refine' go_and ?_
  | with_reducible refine' go_or ?_
  | with_reducible refine' go_not ?_
  | with_reducible refine' go_B ?_
  | with_reducible refine' go_andV ?_
  | with_reducible refine' go_orV ?_
  | with_reducible refine' go_notV ?_
  | with_reducible refine' go_chain ?_
  | with_reducible refine' go_un ?_
  | with_reducible refine' go_U ?_
  | with_reducible refine' go_bm ?_
  | with_reducible refine' go_tup ?_
  | with_reducible refine' go_lst ?_
  | with_reducible refine' go_forR1 ?_
  | with_reducible refine' go_forR2 ?_
  | with_reducible refine' go_forL ?_
  | with_reducible refine' go_forT ?_
  | with_reducible refine' go_forE ?_
  | with_reducible refine' go_lcR1 ?_
  | with_reducible refine' go_lcL ?_
  | with_reducible refine' go_lcT ?_
  | ((with_reducible refine' go_tyL ?hh ?_); (case hh => walk_at "heap"))
  | ((with_reducible refine' go_new ?hz ?_); (case hz => exact Nat.le_of_ble_eq_true rfl))
  | (with_reducible refine' ⟨_, rfl, ?_⟩)
  ))
--MACEND
def isInt : PyData → Bool
  | .int _ => true
  | _ => false
def isNat : PyData → Bool
  | .int i => decide (0 ≤ i)
  | _ => false
def isBand : PyData → Bool
  | .tuple [.int a, .int b] => decide (0 ≤ a) && decide (0 ≤ b) && decide (a ≤ b)
  | _ => false
def isStage : PyData → Bool
  | .tuple (.str k :: d :: ds) => if k = "mix" then ds.isEmpty && isNat d else if k = "dial" then ds.isEmpty && isInt d else decide (k = "pass") && isBand (.tuple (d :: ds))
  | _ => false
def isRate : PyData → Bool
  | .none => true
  | .int i => decide (2 ≤ i)
  | _ => false
def isFrame : PyData → Bool
  | .tuple [.list ss, _] => decide (1 ≤ ss.length) && decide (ss.length ≤ 8)
  | _ => false
/-- a look at one thing -/
def spLook (f : PyData → Bool) : Sp := fun vs H Q _ => ∃ x d, vs = [x] ∧ Dq H x d ∧ ∀ H', Ex H H' → Q (.bl (f d)) H'
theorem look_go {f : PyData → Bool} {x : V} {d : PyData} {H : Hp} {Q : VK} {E : XK} (h : Dq H x d) (k : ∀ H', Ex H H' → Q (.bl (f d)) H') : spLook f ([x] ++ []) H Q E := ⟨x, d, rfl, h, k⟩
section
variable {P : Program} {w : World} {K : PySem.W.Frag} {mg : Str → Option Value} {base : Heap}
abbrev s_is_integer : Stmt := top 12
theorem sc_is_integer : FnScope ["value"] ["value"] (defScope s_is_integer) := ⟨rfl, rfl, rfl, by decide +kernel, rfl, by decide +kernel, by decide +kernel⟩
theorem ok_is_integer {f : Addr} {fd : FuncData} (F : Fun K "is_integer" "is_integer" s_is_integer f fd) (m_isinstance : mg "isinstance" = none) (m_int : mg "int" = none) (m_bool : mg "bool" = none) :
    FnOk P w K mg base CX0 1 f fd ["value"] (spLook isInt) := by
  refine F.ok sc_is_integer (fun vs H Q E h => ?_) (fun cdv A outer s H vs Q E hr h => ?_)
  · obtain ⟨x, d, rfl, _⟩ := h
    rfl
  · obtain ⟨x, d, rfl, hd, k⟩ := h
    refine ⟨_, (pss_one (ps_ret (pe_and (pe_callB call_isi rfl m_isinstance (by decide +kernel) (pa_cons (pv 0) (pa_cons (pe_bltn (v := .ty "int") (u := .type "int") rfl m_int (by decide +kernel) rfl) pa_nil))) (pe_one (pe_not (pe_callB call_isi rfl m_isinstance (by decide +kernel) (pa_cons (pv 0) (pa_cons (pe_bltn (v := .ty "bool") (u := .type "bool") rfl m_bool (by decide +kernel) rfl) pa_nil)))))))), ?_⟩
    walk_at "rd"
    refine go_isi hd (kit_int d) ?_
    walk_at "rd"
    have two : isInt d = !pBool d → rIsi K [x, .ty "bool"] H fun v H' => ∃ c, v = .bl c ∧ Q (.bl (!c)) H' := fun e =>
      go_isi hd (kit_bool d) ⟨_, rfl, by rw [← e]; exact k H (Ex.refl H)⟩
    cases d with
    | int i =>
      refine iteT ?_
      walk_at "rd"
      exact two rfl
    | bool b =>
      refine iteT ?_
      walk_at "rd"
      exact two rfl
    | none => exact iteF (k _ (Ex.refl _))
    | str y => exact iteF (k _ (Ex.refl _))
    | list ds => exact iteF (k _ (Ex.refl _))
    | tuple ds => exact iteF (k _ (Ex.refl _))
    | dict ds => exact iteF (k _ (Ex.refl _))
abbrev s_is_natural : Stmt := top 13
theorem sc_is_natural : FnScope ["value"] ["value"] (defScope s_is_natural) := ⟨rfl, rfl, rfl, by decide +kernel, rfl, by decide +kernel, by decide +kernel⟩
theorem ok_is_natural {f : Addr} {fd : FuncData} (F : Fun K "is_natural" "is_natural" s_is_natural f fd) (h_is_integer : Has P w K mg base 1 "is_integer" (spLook isInt)) :
    FnOk P w K mg base CX0 2 f fd ["value"] (spLook isNat) := by
  refine F.ok sc_is_natural (fun vs H Q E h => ?_) (fun cdv A outer s H vs Q E hr h => ?_)
  · obtain ⟨x, d, rfl, _⟩ := h
    rfl
  · obtain ⟨x, d, rfl, hd, k⟩ := h
    refine ⟨_, (pss_one (ps_ret (pe_and (pe_hs h_is_integer hr rfl (pa_cons (pv 0) pa_nil)) (pe_one (pe_cmpR op_ge (pv 0) pe_int (nomark _)))))), ?_⟩
    walk_at "rd"
    refine look_go hd fun H1 e1 => ?_
    walk_at "rd"
    cases d with
    | int i =>
      cases hd
      refine iteT ?_
      walk_at "rd"
      exact k _ e1
    | bool b => exact iteF (k _ e1)
    | none => exact iteF (k _ e1)
    | str y => exact iteF (k _ e1)
    | list ds => exact iteF (k _ e1)
    | tuple ds => exact iteF (k _ e1)
    | dict ds => exact iteF (k _ e1)
theorem nat_int {d : PyData} (h : isNat d = true) : ∃ i : Int, d = .int i ∧ 0 ≤ i := by
  cases d <;> simp [isNat] at h
  exact ⟨_, rfl, h⟩
theorem dqa2 {H : Hp} {vs : List V} {ds : List PyData} (h : DqAll H vs ds) (hl : ds.length = 2) : ∃ a b d e, vs = [a, b] ∧ ds = [d, e] ∧ Dq H a d ∧ Dq H b e := by
  cases h with
  | nil => simp at hl
  | cons h1 h2 => cases h2 with
    | nil => simp at hl
    | cons h3 h4 => cases h4 with
      | nil => exact ⟨_, _, _, _, rfl, rfl, h1, h3⟩
      | cons _ _ => simp at hl
abbrev s_is_band : Stmt := top 14
theorem sc_is_band : FnScope ["value", "least", "greatest"] ["value"] (defScope s_is_band) := ⟨rfl, rfl, rfl, by decide +kernel, rfl, by decide +kernel, by decide +kernel⟩
theorem ok_is_band {f : Addr} {fd : FuncData} (F : Fun K "is_band" "is_band" s_is_band f fd) (m_isinstance : mg "isinstance" = none) (m_tuple : mg "tuple" = none) (m_len : mg "len" = none) (h_is_natural : Has P w K mg base 2 "is_natural" (spLook isNat)) :
    FnOk P w K mg base CX0 3 f fd ["value"] (spLook isBand) := by
  refine F.ok sc_is_band (fun vs H Q E h => ?_) (fun cdv A outer s H vs Q E hr h => ?_)
  · obtain ⟨x, d, rfl, _⟩ := h
    rfl
  · obtain ⟨x, d, rfl, hd, k⟩ := h
    refine ⟨_, (pss_cons (ps_if (PW.pt (pw_or (pt_not (pt_val (pe_callB call_isi rfl m_isinstance (by decide +kernel) (pa_cons (pv 0) (pa_cons (pe_bltn (v := .ty "tuple") (u := .type "tuple") rfl m_tuple (by decide +kernel) rfl) pa_nil))))) (pw_or1 (pt_cmpR op_ne (pe_callB call_lenQ rfl m_len PySem.boot_len (pa_cons (pv 0) pa_nil)) pe_int (nomark _)))))
  (pss_one (ps_ret pe_bl))
  pss_nil)
  (pss_cons (ps_asg (pv 0) (pg_tup (by rfl) (pgs_cons (pg_name (i := 1) sc_is_band.nd rfl (Or.inl rfl)) (pgs_cons (pg_name (i := 2) sc_is_band.nd rfl (Or.inl rfl)) pgs_nil))))
  (pss_one (ps_ret (pe_and (pe_hs h_is_natural hr rfl (pa_cons (pv 1) pa_nil)) (pe_and (pe_hs h_is_natural hr rfl (pa_cons (pv 2) pa_nil)) (pe_one (pe_cmpR op_le (pv 1) (pv 2) (nomark _))))))))), ?_⟩
    walk_at "rd"
    refine go_isi hd (kit_tuple d) ?_
    walk_at "rd"
    rcases tuple_or d with ⟨ds, rfl⟩ | hn
    · obtain ⟨a, xs, rfl, ha, hda⟩ := hd.tupleAt
      have hl := hda.len
      refine iteF ?_
      walk_at "rd"
      by_cases h2 : ds.length = 2
      · obtain ⟨b, c, d, e, rfl, rfl, hb, hc⟩ := dqa2 hda h2
        refine iteNS rfl ?_
        walk_at "rd"
        refine go_gtup (.inl ha) rfl ?_
        walk_at "rd"
        refine look_go hb fun H1 e1 => ?_
        walk_at "rd"
        cases hd1 : isNat d with
        | false =>
          refine iteF ?_
          have e : isBand (.tuple [d, e]) = false := by
            cases d <;> cases e <;> simp [isBand, isNat] at *
            omega
          rw [← e]
          exact k _ e1
        | true =>
          obtain ⟨i, rfl, hi⟩ := nat_int hd1
          refine iteT ?_
          walk_at "rd"
          refine look_go (hc.ex e1) fun H2 e2 => ?_
          walk_at "rd"
          cases hd2 : isNat e with
          | false =>
            refine iteF ?_
            have e : isBand (.tuple [.int i, e]) = false := by
              cases e <;> simp [isBand, isNat] at *
              omega
            rw [← e]
            exact k _ (e1.trans e2)
          | true =>
            obtain ⟨j, rfl, hj⟩ := nat_int hd2
            cases hb
            cases hc
            refine iteT ?_
            walk_at "rd"
            have e : isBand (.tuple [.int i, .int j]) = decide (i ≤ j) := by simp [isBand, hi, hj]
            rw [← e]
            exact k _ (e1.trans e2)
      · have hne : (!decide (V.int (xs.length : Int) = V.int 2)) = true := by
          simp
          omega
        rw [hne]
        refine iteT ?_
        walk_at "rd"
        have e : isBand (.tuple ds) = false := by
          match ds, h2 with
          | [], _ => rfl
          | [x], _ => cases x <;> rfl
          | [_, _], h => exact absurd rfl h
          | x :: y :: _ :: _, _ => cases x <;> first | rfl | (cases y <;> rfl)
        rw [← e]
        exact k _ (Ex.refl _)
    · rw [hn]
      refine iteT (iteT ?_)
      walk_at "rd"
      have e : isBand d = false := by cases d <;> first | rfl | simp [pTuple] at hn
      rw [← e]
      exact k _ (Ex.refl _)
abbrev s_is_stage : Stmt := top 15
theorem sc_is_stage : FnScope ["value", "kind"] ["value"] (defScope s_is_stage) := ⟨rfl, rfl, rfl, by decide +kernel, rfl, by decide +kernel, by decide +kernel⟩
theorem ok_is_stage {f : Addr} {fd : FuncData} (F : Fun K "is_stage" "is_stage" s_is_stage f fd) (m_isinstance : mg "isinstance" = none) (m_tuple : mg "tuple" = none) (m_str : mg "str" = none) (m_len : mg "len" = none)
    (h_is_integer : Has P w K mg base 1 "is_integer" (spLook isInt)) (h_is_natural : Has P w K mg base 2 "is_natural" (spLook isNat)) (h_is_band : Has P w K mg base 3 "is_band" (spLook isBand)) :
    FnOk P w K mg base CX0 4 f fd ["value"] (spLook isStage) := by
  refine F.ok sc_is_stage (fun vs H Q E h => ?_) (fun cdv A outer s H vs Q E hr h => ?_)
  · obtain ⟨x, d, rfl, _⟩ := h
    rfl
  · obtain ⟨x, d, rfl, hd, k⟩ := h
    refine ⟨_, (pss_cons (ps_if (PW.pt (pw_or (pt_not (pt_val (pe_callB call_isi rfl m_isinstance (by decide +kernel) (pa_cons (pv 0) (pa_cons (pe_bltn (v := .ty "tuple") (u := .type "tuple") rfl m_tuple (by decide +kernel) rfl) pa_nil))))) (pw_or (pt_cmpR op_lt (pe_callB call_lenQ rfl m_len PySem.boot_len (pa_cons (pv 0) pa_nil)) pe_int (nomark _)) (pw_or1 (pt_not (pt_val (pe_callB call_isi rfl m_isinstance (by decide +kernel) (pa_cons (pe_ix ix_tup (pv 0) pe_int (fun _ _ => rfl)) (pa_cons (pe_bltn (v := .ty "str") (u := .type "str") rfl m_str (by decide +kernel) rfl) pa_nil)))))))))
  (pss_one (ps_ret pe_bl))
  pss_nil)
  (pss_cons (ps_set (i := 1) sc_is_stage.nd rfl (Or.inl rfl) (pe_ix ix_tup (pv 0) pe_int (fun _ _ => rfl)))
  (pss_cons (ps_if (pt_cmpR op_eq (pv 1) pe_str (nomark _))
  (pss_one (ps_ret (pe_and (pe_cmpR op_eq (pe_callB call_lenQ rfl m_len PySem.boot_len (pa_cons (pv 0) pa_nil)) pe_int (nomark _)) (pe_one (pe_hs h_is_natural hr rfl (pa_cons (pe_ix ix_tup (pv 0) pe_int (fun _ _ => rfl)) pa_nil))))))
  pss_nil)
  (pss_cons (ps_if (pt_cmpR op_eq (pv 1) pe_str (nomark _))
  (pss_one (ps_ret (pe_and (pe_cmpR op_eq (pe_callB call_lenQ rfl m_len PySem.boot_len (pa_cons (pv 0) pa_nil)) pe_int (nomark _)) (pe_one (pe_hs h_is_integer hr rfl (pa_cons (pe_ix ix_tup (pv 0) pe_int (fun _ _ => rfl)) pa_nil))))))
  pss_nil)
  (pss_one (ps_ret (pe_and (pe_cmpR op_eq (pv 1) pe_str (nomark _)) (pe_one (pe_hs h_is_band hr rfl (pa_cons (pe_slice sl_tup (pv 0) (po_some pe_int) po_none) pa_nil)))))))))), ?_⟩
    have no : isStage d = false → ∀ H', Ex H H' → Q (.bl false) H' := fun e H' e' => by rw [← e]; exact k H' e'
    walk_at "rd"
    refine go_isi hd (kit_tuple d) ?_
    walk_at "rd"
    rcases tuple_or d with ⟨ds, rfl⟩ | hn
    · obtain ⟨a, xs, rfl, ha, hda⟩ := hd.tupleAt
      have hl := hda.len
      refine iteF ?_
      walk_at "rd"
      cases hda with
      | nil =>
        refine iteT (iteT ?_)
        walk_at "rd"
        exact no rfl _ (Ex.refl _)
      | cons q1 hda =>
        rename_i v vs d ds
        cases hda with
        | nil =>
          refine iteT (iteT ?_)
          walk_at "rd"
          refine no ?_ _ (Ex.refl _)
          cases d <;> rfl
        | cons q2 hda =>
          rename_i v2 vs d2 ds
          have hlt : decide (((v :: v2 :: vs).length : Int) < 2) = false := by simp; omega
          rw [hlt]
          refine iteF ?_
          walk_at "rd"
          refine go_isi q1 (kit_str d) ?_
          walk_at "rd"
          rcases str_or d with ⟨nm, rfl⟩ | hn
          · cases q1
            refine iteF ?_
            walk_at "rd"
            have len2 : decide (V.int ((V.str nm :: v2 :: vs).length : Int) = V.int 2) = ds.isEmpty := by
              have := hda.len
              cases ds with
              | nil => cases vs with
                       | nil => rfl
                       | cons _ _ => simp at this
              | cons _ _ => cases vs with
                            | nil => simp at this
                            | cons _ _ => simp; omega
            refine ite2 (fun c => ?_) (fun c => ?_)
            · obtain rfl : nm = "mix" := by simpa using c
              walk_at "rd"
              rw [len2]
              cases he : ds.isEmpty with
              | false =>
                refine iteF (no ?_ _ (Ex.refl _))
                simp [isStage, he]
              | true =>
                refine iteT ?_
                walk_at "rd"
                refine look_go q2 fun H1 e1 => ?_
                have e : isStage (.tuple (.str "mix" :: d2 :: ds)) = isNat d2 := by simp [isStage, he]
                rw [← e]
                exact k _ e1
            · have cm : nm ≠ "mix" := by simpa using c
              walk_at "rd"
              refine ite2 (fun c2 => ?_) (fun c2 => ?_)
              · obtain rfl : nm = "dial" := by simpa using c2
                walk_at "rd"
                rw [len2]
                cases he : ds.isEmpty with
                | false =>
                  refine iteF (no ?_ _ (Ex.refl _))
                  simp [isStage, he]
                | true =>
                  refine iteT ?_
                  walk_at "rd"
                  refine look_go q2 fun H1 e1 => ?_
                  have e : isStage (.tuple (.str "dial" :: d2 :: ds)) = isInt d2 := by simp [isStage, he, cm]
                  rw [← e]
                  exact k _ e1
              · have cd : nm ≠ "dial" := by simpa using c2
                have e : isStage (.tuple (.str nm :: d2 :: ds)) = (decide (nm = "pass") && isBand (.tuple (d2 :: ds))) := by simp [isStage, cm, cd]
                walk_at "rd"
                have en : decide (V.str nm = V.str "pass") = decide (nm = "pass") := by simp
                rw [en]
                cases hp : decide (nm = "pass") with
                | false =>
                  refine iteF (no ?_ _ (Ex.refl _))
                  rw [e, hp]
                  rfl
                | true =>
                  refine iteT ?_
                  walk_at "rd"
                  obtain ⟨t1, t2⟩ := cut_tail (V.str nm) (v2 :: vs)
                  refine go_slT ha t2 fun p hp' => ?_
                  rw [t1]
                  walk_at "rd"
                  have en := Ex.new (o := HO.tup (v2 :: vs)) hp'
                  refine look_go (d := .tuple (d2 :: ds)) (.tup (.inl upd_same) (.cons (q2.ex en) (hda.ex en))) fun H1 e1 => ?_
                  have e' : isStage (.tuple (.str nm :: d2 :: ds)) = isBand (.tuple (d2 :: ds)) := by rw [e, hp]; rfl
                  rw [← e']
                  exact k _ (en.trans e1)
          · rw [hn]
            refine iteT ?_
            walk_at "rd"
            refine no ?_ _ (Ex.refl _)
            cases d <;> first | rfl | simp [pStr] at hn
    · rw [hn]
      refine iteT (iteT ?_)
      walk_at "rd"
      refine no ?_ _ (Ex.refl _)
      cases d <;> first | rfl | simp [pTuple] at hn
abbrev s_is_rate : Stmt := top 16
theorem sc_is_rate : FnScope ["value"] ["value"] (defScope s_is_rate) := ⟨rfl, rfl, rfl, by decide +kernel, rfl, by decide +kernel, by decide +kernel⟩
theorem ok_is_rate {f : Addr} {fd : FuncData} {t : Tok} (F : Fun K "is_rate" "is_rate" s_is_rate f fd) (g_LEAST_RATE : mg "LEAST_RATE" = some (.int 2 t)) (h_is_integer : Has P w K mg base 1 "is_integer" (spLook isInt)) :
    FnOk P w K mg base CX0 2 f fd ["value"] (spLook isRate) := by
  refine F.ok sc_is_rate (fun vs H Q E h => ?_) (fun cdv A outer s H vs Q E hr h => ?_)
  · obtain ⟨x, d, rfl, _⟩ := h
    rfl
  · obtain ⟨x, d, rfl, hd, k⟩ := h
    refine ⟨_, (pss_one (ps_ret (pe_or (pe_cmpR op_isN1 (pv 0) pe_non (nomark _)) (pe_one (pe_and (pe_hs h_is_integer hr rfl (pa_cons (pv 0) pa_nil)) (pe_one (pe_cmpR op_ge (pv 0) (pe_glob (v := .int 2) rfl g_LEAST_RATE ⟨_, rfl⟩) (nomark _)))))))), ?_⟩
    walk_at "rd"
    cases hd with
    | non => exact iteT (k _ (Ex.refl _))
    | int i =>
      refine iteF ?_
      walk_at "rd"
      refine look_go (.int i) fun H1 e1 => ?_
      walk_at "rd"
      refine iteT ?_
      walk_at "rd"
      exact k _ e1
    | bl b =>
      refine iteF ?_
      walk_at "rd"
      refine look_go (.bl b) fun H1 e1 => ?_
      walk_at "rd"
      exact iteF (k _ e1)
    | str b =>
      refine iteF ?_
      walk_at "rd"
      refine look_go (.str b) fun H1 e1 => ?_
      walk_at "rd"
      exact iteF (k _ e1)
    | lst h1 h2 =>
      refine iteF ?_
      walk_at "rd"
      refine look_go (.lst h1 h2) fun H1 e1 => ?_
      walk_at "rd"
      exact iteF (k _ e1)
    | tup h1 h2 =>
      refine iteF ?_
      walk_at "rd"
      refine look_go (.tup h1 h2) fun H1 e1 => ?_
      walk_at "rd"
      exact iteF (k _ e1)
    | dic h1 =>
      refine iteF ?_
      walk_at "rd"
      refine look_go (.dic h1) fun H1 e1 => ?_
      walk_at "rd"
      exact iteF (k _ e1)
abbrev s__is_frame : Stmt := top 17
theorem sc__is_frame : FnScope ["value"] ["value"] (defScope s__is_frame) := ⟨rfl, rfl, rfl, by decide +kernel, rfl, by decide +kernel, by decide +kernel⟩
theorem ok_is_frame {f : Addr} {fd : FuncData} {t : Tok} (F : Fun K "_is_frame" "_is_frame" s__is_frame f fd) (m_isinstance : mg "isinstance" = none) (m_tuple : mg "tuple" = none) (m_list : mg "list" = none) (m_len : mg "len" = none) (g_MOST_STAGES : mg "MOST_STAGES" = some (.int 8 t)) :
    FnOk P w K mg base CX0 1 f fd ["value"] (spLook isFrame) := by
  refine F.ok sc__is_frame (fun vs H Q E h => ?_) (fun cdv A outer s H vs Q E hr h => ?_)
  · obtain ⟨x, d, rfl, _⟩ := h
    rfl
  · obtain ⟨x, d, rfl, hd, k⟩ := h
    refine ⟨_, (pss_cons (ps_if (PW.pt (pw_or (pt_not (pt_val (pe_callB call_isi rfl m_isinstance (by decide +kernel) (pa_cons (pv 0) (pa_cons (pe_bltn (v := .ty "tuple") (u := .type "tuple") rfl m_tuple (by decide +kernel) rfl) pa_nil))))) (pw_or1 (pt_cmpR op_ne (pe_callB call_lenQ rfl m_len PySem.boot_len (pa_cons (pv 0) pa_nil)) pe_int (nomark _)))))
  (pss_one (ps_ret pe_bl))
  pss_nil)
  (pss_one (ps_ret (pe_and (pe_callB call_isi rfl m_isinstance (by decide +kernel) (pa_cons (pe_ix ix_tup (pv 0) pe_int (fun _ _ => rfl)) (pa_cons (pe_bltn (v := .ty "list") (u := .type "list") rfl m_list (by decide +kernel) rfl) pa_nil))) (pe_one (pe_chain op_le op_le pe_int (pe_callB call_lenQ rfl m_len PySem.boot_len (pa_cons (pe_ix ix_tup (pv 0) pe_int (fun _ _ => rfl)) pa_nil)) (pe_glob (v := .int 8) rfl g_MOST_STAGES ⟨_, rfl⟩))))))), ?_⟩
    have no : isFrame d = false → Q (.bl false) H := fun e => by rw [← e]; exact k H (Ex.refl H)
    walk_at "rd"
    refine go_isi hd (kit_tuple d) ?_
    walk_at "rd"
    rcases tuple_or d with ⟨ds, rfl⟩ | hn
    · obtain ⟨a, xs, rfl, ha, hda⟩ := hd.tupleAt
      have hl := hda.len
      refine iteF ?_
      walk_at "rd"
      by_cases h2 : ds.length = 2
      · obtain ⟨b, c, d, e, rfl, rfl, hb, hc⟩ := dqa2 hda h2
        refine iteNS rfl ?_
        walk_at "rd"
        refine go_isi hb (kit_list d) ?_
        walk_at "rd"
        rcases list_or d with ⟨ss, rfl⟩ | hn
        · obtain ⟨a2, ys, rfl, ha2, hda2⟩ := hb.listAt
          refine iteT ?_
          walk_at "rd"
          have hl2 := hda2.len
          cases h1 : decide (1 ≤ (ys.length : Int)) with
          | false =>
            refine iteF (no ?_)
            have : ss.length = 0 := by simp at h1; omega
            simp [isFrame, this]
          | true =>
            refine iteT ?_
            walk_at "rd"
            have e : isFrame (.tuple [.list ss, e]) = decide ((ys.length : Int) ≤ 8) := by
              have : 1 ≤ ss.length := by simp at h1; omega
              simp [isFrame, this]
              rw [hl2]
              by_cases q : ss.length ≤ 8
              · simp [q]; omega
              · simp [q]; omega
            rw [← e]
            exact k _ (Ex.refl _)
        · rw [hn]
          refine iteF (no ?_)
          cases d <;> first | rfl | simp [pList] at hn
      · have hne : (!decide (V.int (xs.length : Int) = V.int 2)) = true := by
          simp
          omega
        rw [hne]
        refine iteT ?_
        walk_at "rd"
        refine no ?_
        match ds, h2 with
        | [], _ => rfl
        | [x], _ => cases x <;> rfl
        | [_, _], h => exact absurd rfl h
        | x :: y :: _ :: _, _ => cases x <;> rfl
    · rw [hn]
      refine iteT (iteT ?_)
      walk_at "rd"
      refine no ?_
      cases d <;> first | rfl | simp [pTuple] at hn
/-- a look that passes: nothing is raised -/
def spCheck (f : PyData → Bool) : Sp := fun vs H Q _ => ∃ x d, vs = [x] ∧ Dq H x d ∧ f d = true ∧ ∀ H', Ex H H' → Q .non H'
theorem check_go {f : PyData → Bool} {x : V} {d : PyData} {H : Hp} {Q : VK} {E : XK} (h : Dq H x d) (hf : f d = true) (k : ∀ H', Ex H H' → Q .non H') : spCheck f ([x] ++ []) H Q E := ⟨x, d, rfl, h, hf, k⟩
abbrev s_check_dial : Stmt := top 19
theorem sc_check_dial : FnScope ["dial"] ["dial"] (defScope s_check_dial) := ⟨rfl, rfl, rfl, by decide +kernel, rfl, by decide +kernel, by decide +kernel⟩
theorem ok_check_dial {f : Addr} {fd : FuncData} (F : Fun K "check_dial" "check_dial" s_check_dial f fd) (h_is_integer : Has P w K mg base 1 "is_integer" (spLook isInt)) : FnOk P w K mg base CX0 2 f fd ["dial"] (spCheck isInt) := by
  refine F.ok sc_check_dial (fun vs H Q E h => ?_) (fun cdv A outer s H vs Q E hr h => ?_)
  · obtain ⟨x, d, rfl, _⟩ := h
    rfl
  · obtain ⟨x, d, rfl, hd, hf, k⟩ := h
    refine ⟨_, (pss_one (ps_if (pt_not (pt_val (pe_hs h_is_integer hr rfl (pa_cons (pv 0) pa_nil))))
  (pss_one ps_never)
  pss_nil)), ?_⟩
    walk_at "rd"
    refine look_go hd fun H1 e1 => ?_
    rw [hf]
    walk_at "rd"
    refine iteF ?_
    walk_at "rd"
    exact k _ e1
abbrev s_check_signal : Stmt := top 20
theorem sc_check_signal : FnScope ["signal"] ["signal"] (defScope s_check_signal) := ⟨rfl, rfl, rfl, by decide +kernel, rfl, by decide +kernel, by decide +kernel⟩
theorem ok_check_signal {f : Addr} {fd : FuncData} (F : Fun K "check_signal" "check_signal" s_check_signal f fd) (h_is_natural : Has P w K mg base 2 "is_natural" (spLook isNat)) : FnOk P w K mg base CX0 3 f fd ["signal"] (spCheck isNat) := by
  refine F.ok sc_check_signal (fun vs H Q E h => ?_) (fun cdv A outer s H vs Q E hr h => ?_)
  · obtain ⟨x, d, rfl, _⟩ := h
    rfl
  · obtain ⟨x, d, rfl, hd, hf, k⟩ := h
    refine ⟨_, (pss_one (ps_if (pt_not (pt_val (pe_hs h_is_natural hr rfl (pa_cons (pv 0) pa_nil))))
  (pss_one ps_never)
  pss_nil)), ?_⟩
    walk_at "rd"
    refine look_go hd fun H1 e1 => ?_
    rw [hf]
    walk_at "rd"
    refine iteF ?_
    walk_at "rd"
    exact k _ e1
end
end Kx

set_option Elab.async false
set_option linter.all false
set_option maxRecDepth 100000
set_option maxHeartbeats 2000000

namespace Kx
open PySem PySem.Spec PyProof.Rows L2 HX
open Evl (Ex)
local macro_rules | `(tactic| walk_at "side") => `(tactic| first | assumption | ((try dsimp only); first | assumption | decide +kernel | omega | exact ⟨by decide, by decide⟩ | (left; decide) | (left; omega) | (refine Or.inl ⟨?_, ?_⟩ <;> omega) | (refine Or.inr ⟨?_, ?_⟩ <;> omega)))
local macro_rules | `(tactic| walk_at "heap") => `(tactic| first | assumption | exact upd_same | exact Or.inl (by assumption) | exact Or.inl upd_same)
local macro_rules | `(tactic| walk_at "item") => `(tactic| first | exact rfl | exact atI_nat (j := 0) rfl | exact atI_nat (j := 1) rfl | exact atI_nat (j := 2) rfl | assumption)
local macro_rules | `(tactic| walk_at "rd") => `(tactic| repeat (first
  | ((with_reducible refine' go_var ?hv ?_); (case hv => exact rfl))
  | with_reducible refine' go_c ?_
  | with_reducible refine' go_op ?_
  | with_reducible refine' go_seq ?_
  | with_reducible refine' go_asg ?_
  | with_reducible refine' go_name ?_
  | with_reducible refine' go_cons ?_
  | with_reducible refine' go_nil ?_
  | with_reducible refine' go_cb ?_
  | with_reducible refine' go_call ?_
  | with_reducible refine' go_ifS ?_
  | with_reducible refine' go_test ?_
  | with_reducible refine' go_bl ?_
  | with_reducible refine' go_ret ?_
  | with_reducible refine' go_I0 ?_
  | ((with_reducible refine' go_I ?cc ?_); (case cc => walk_at "side"))
  | ((with_reducible refine' go_ixL ?hh ?hk ?_); (case hh => walk_at "heap"); (case hk => walk_at "item"))
  | ((with_reducible refine' go_ixT ?hh ?hk ?_); (case hh => walk_at "heap"); (case hk => walk_at "item"))
  | ((with_reducible refine' go_lenL ?hh ?_); (case hh => walk_at "heap"))
  | ((with_reducible refine' go_lenT ?hh ?_); (case hh => walk_at "heap"))
  | ((with_reducible refine' go_setL ?hh ?hk ?_); (case hh => walk_at "heap"); (case hk => walk_at "item"))
  | with_reducible refine' go_abs ?_
  | with_reducible refine' go_max ?_
  | with_reducible refine' go_min ?_
  | with_reducible refine' go_int ?_
  | with_reducible refine' go_intB ?_
  | (with_reducible refine' go_eq rfl ?_)
  | (with_reducible refine' go_ne rfl ?_)
  | with_reducible refine' go_isN ?_
  | with_reducible refine' go_notN ?_
  | with_reducible refine' go_if ?_
  | with_reducible refine' go_sub ?_
  | with_reducible refine' go_par ?_
  | with_reducible refine' go_sl ?_
  | with_reducible refine' go_part ?_
  | with_reducible refine' go_pint ?_
  | with_reducible refine' go_nopart ?_
  | ((with_reducible refine' go_lenL ?hh ?_); (case hh => walk_at "heap"))
  | ((with_reducible refine' go_lenT ?hh ?_); (case hh => walk_at "heap"))
  | ((with_reducible refine' go_lenS ?hh ?_); (case hh => assumption))
  | with_reducible refine' go_gcons ?_
  | with_reducible refine' go_gnil ?_
  | with_reducible refine' go_kw ?_
  | with_reducible refine' go_par2 ?_
  | with_reducible refine' go_next ?_
  | with_reducible refine' go_drop ?_
  | with_reducible refine' go_and ?_
  | with_reducible refine' go_or ?_
  | with_reducible refine' go_not ?_
  | with_reducible refine' go_B ?_
  | with_reducible refine' go_andV ?_
  | with_reducible refine' go_orV ?_
  | with_reducible refine' go_notV ?_
  | with_reducible refine' go_chain ?_
  | with_reducible refine' go_un ?_
  | with_reducible refine' go_U ?_
  | with_reducible refine' go_bm ?_
  | with_reducible refine' go_tup ?_
  | with_reducible refine' go_lst ?_
  | with_reducible refine' go_forR1 ?_
  | with_reducible refine' go_forR2 ?_
  | with_reducible refine' go_forL ?_
  | with_reducible refine' go_forT ?_
  | with_reducible refine' go_forE ?_
  | with_reducible refine' go_lcR1 ?_
  | with_reducible refine' go_lcL ?_
  | with_reducible refine' go_lcT ?_
  | ((with_reducible refine' go_tyL ?hh ?_); (case hh => walk_at "heap"))
  | ((with_reducible refine' go_new ?hz ?_); (case hz => exact Nat.le_of_ble_eq_true rfl))
  | (with_reducible refine' ⟨_, rfl, ?_⟩)
  ))
--MACEND
section
variable {P : Program} {w : World} {K : PySem.W.Frag} {mg : Str → Option Value} {base : Heap}
theorem stg_stage {b : Int} {s : Stg} (h : s.ok b) : isStage s.d = true := by
  have n1 : ¬ ((("dial" : String) : Str) = "mix") := by decide +kernel
  have n2 : ¬ ((("pass" : String) : Str) = "mix") := by decide +kernel
  have n3 : ¬ ((("pass" : String) : Str) = "dial") := by decide +kernel
  cases s with
  | mix lo => simp [Stg.d, isStage, isNat, h.1]
  | dial lo => simp [Stg.d, isStage, isInt, n1]
  | pass lo hi =>
    have : 0 ≤ hi := Int.le_trans h.1 h.2.1
    simp [Stg.d, isStage, isBand, n2, n3, h.1, h.2.1, this]
theorem dqa_get {H : Hp} : ∀ {vs : List V} {ss : List Stg} {i : Nat} {v : V}, DqAll H vs (ss.map Stg.d) → vs[i]? = some v → ∃ s, ss[i]? = some s ∧ Dq H v s.d := fun {vs ss i v} h e => by
  obtain ⟨d, h1, h2⟩ := h.get e
  rw [List.getElem?_map] at h1
  cases q : ss[i]? with
  | none => rw [q] at h1; cases h1
  | some s => rw [q] at h1; cases h1; exact ⟨s, rfl, h2⟩
def spRecv : Sp := fun vs H Q _ => ∃ x b ss rate, vs = [x] ∧ Dq H x (radD ss rate) ∧ Rad b ss rate ∧ ∀ H', Ex H H' → Q .non H'
theorem dials_take {ss : List Stg} {i : Nat} {s : Stg} (h : ss[i]? = some s) (one : dials ss ≤ 1) (hd : s.isDial = true) : dials (ss.take i) = 0 := by
  have hlt : i < ss.length := (List.getElem?_eq_some_iff.mp h).1
  have e : ss = ss.take i ++ s :: ss.drop (i + 1) := by
    have e1 : ss[i] = s := (List.getElem?_eq_some_iff.mp h).2
    conv => lhs; rw [← List.take_append_drop i ss, List.drop_eq_getElem_cons hlt, e1]
  have e2 : dials ss = dials (ss.take i) + dials (s :: ss.drop (i + 1)) := by
    conv => lhs; rw [e]
    unfold dials
    rw [List.filter_append, List.length_append]
  have e3 : 1 ≤ dials (s :: ss.drop (i + 1)) := by
    unfold dials
    rw [List.filter_cons, if_pos hd]
    simp
  omega
theorem dials_more {ss : List Stg} {i : Nat} {s : Stg} (h : ss[i]? = some s) : dials (ss.take (i + 1)) = dials (ss.take i) + (if s.isDial then 1 else 0) := by
  have hlt := (List.getElem?_eq_some_iff.mp h).1
  rw [List.take_succ, h]
  exact dials_app _ _
abbrev s_check_receiver : Stmt := top 18
theorem sc_check_receiver : FnScope ["receiver", "stages", "rate", "has_dial", "index", "stage"] ["receiver"] (defScope s_check_receiver) := ⟨rfl, rfl, rfl, by decide +kernel, rfl, by decide +kernel, by decide +kernel⟩
theorem ok_check_receiver {f : Addr} {fd : FuncData} (F : Fun K "check_receiver" "check_receiver" s_check_receiver f fd) (m_enumerate : mg "enumerate" = none) (m_len : mg "len" = none) (h__is_frame : Has P w K mg base 1 "_is_frame" (spLook isFrame))
    (h_is_stage : Has P w K mg base 4 "is_stage" (spLook isStage)) (h_is_rate : Has P w K mg base 2 "is_rate" (spLook isRate)) : FnOk P w K mg base CX0 5 f fd ["receiver"] spRecv := by
  refine F.ok sc_check_receiver (fun vs H Q E h => ?_) (fun cdv A outer s H vs Q E hr h => ?_)
  · obtain ⟨x, b, ss, rate, rfl, _⟩ := h
    rfl
  · obtain ⟨x, b, ss, rate, rfl, hd, R, k⟩ := h
    refine ⟨_, (pss_cons (ps_if (pt_not (pt_val (pe_hs h__is_frame hr rfl (pa_cons (pv 0) pa_nil))))
  (pss_one ps_never)
  pss_nil)
  (pss_cons (ps_asg (pv 0) (pg_tup (by rfl) (pgs_cons (pg_name (i := 1) sc_check_receiver.nd rfl (Or.inl rfl)) (pgs_cons (pg_name (i := 2) sc_check_receiver.nd rfl (Or.inl rfl)) pgs_nil))))
  (pss_cons (ps_set (i := 3) sc_check_receiver.nd rfl (Or.inl rfl) pe_bl)
  (pss_cons (ps_for PassesOwn.never rfl (pi_enum (by rfl) m_enumerate (pa_cons (pv 1) pa_nil)) (pg_tup (by rfl) (pgs_cons (pg_name (i := 4) sc_check_receiver.nd rfl (Or.inl rfl)) (pgs_cons (pg_name (i := 5) sc_check_receiver.nd rfl (Or.inl rfl)) pgs_nil)))
  (pss_cons (ps_if (pt_not (pt_val (pe_hs h_is_stage hr rfl (pa_cons (pv 5) pa_nil))))
  (pss_one ps_never)
  pss_nil)
  (pss_one (ps_if (pt_cmpR op_eq (pe_ix ix_tup (pv 5) pe_int (fun _ _ => rfl)) pe_str (nomark _))
  (pss_cons (ps_if (pt_val (pv 3))
  (pss_one ps_never)
  pss_nil)
  (pss_one (ps_set (i := 3) sc_check_receiver.nd rfl (Or.inl rfl) pe_bl)))
  pss_nil))))
  (pss_one (ps_if (pt_not (pt_val (pe_hs h_is_rate hr rfl (pa_cons (pv 2) pa_nil))))
  (pss_one ps_never)
  pss_nil)))))), ?_⟩
    walk_at "rd"
    refine look_go hd fun H1 e1 => ?_
    have hf : isFrame (radD ss rate) = true := by
      have h1 : 1 ≤ ss.length := List.length_pos_iff.mpr R.ne
      simp [radD, isFrame, h1, R.le]
    rw [hf]
    walk_at "rd"
    refine iteF ?_
    walk_at "rd"
    obtain ⟨a, xs, rfl, ha, hda⟩ := (hd.ex e1).tupleAt
    obtain ⟨v1, v2, d1, d2, rfl, ed, hv1, hv2⟩ := dqa2 hda rfl
    obtain ⟨rfl, rfl⟩ : PyData.list (ss.map Stg.d) = d1 ∧ rateD rate = d2 := by simpa using ed
    obtain ⟨l, ys, rfl, hl, hys⟩ := hv1.listAt
    refine go_gtup (.inl ha) rfl ?_
    walk_at "rd"
    refine ⟨l, ys, rfl, .inl hl, ?_⟩
    refine run_forE ys (fun i σ G => ∃ v4 v5 : Option V, σ = [some (.ref a), some (.ref l), some v2, some (.bl (decide (0 < dials (ss.take i)))), v4, v5] ∧ Ex H1 G) ?_ ?_ ?_ ?_
    · exact ⟨_, _, rfl, Ex.refl _⟩
    · rintro i σ G _ ⟨v4, v5, rfl, e⟩
      exact .inl (Evl.ex_rd e hl)
    · rintro i y σ G T hi ⟨v4, v5, rfl, e⟩ hT
      obtain ⟨s, hs, hds⟩ := dqa_get hys hi
      have e2 := e.trans (Ex.new (o := HO.tup [.int (i : Nat), y]) hT)
      have okS := R.ok s (List.mem_of_getElem? hs)
      refine go_gtup (.inl (.inl upd_same)) rfl ?_
      walk_at "rd"
      refine look_go (hds.ex e2) fun H2 e3 => ?_
      rw [stg_stage okS]
      walk_at "rd"
      refine iteF ?_
      obtain ⟨b2, zs, rfl, hb, hz⟩ := stg_nm (hds.ex (e2.trans e3))
      walk_at "rd"
      rw [nm_dial]
      have fin : ∀ G' x, Ex H2 G' → x = decide (0 < dials (ss.take (i + 1))) → ∃ v4 v5 : Option V, [some (V.ref a), some (.ref l), some v2, some (.bl x), some (.int (i : Nat)), some (.ref b2)] =
          [some (.ref a), some (.ref l), some v2, some (.bl (decide (0 < dials (ss.take (i + 1))))), v4, v5] ∧ Ex H1 G' := fun G' x e4 ex => ⟨some (.int (i : Nat)), some (.ref b2), by rw [ex], (e2.trans e3).trans e4⟩
      cases hdl : s.isDial with
      | true =>
        refine iteT ?_
        have z := dials_take hs R.one hdl
        walk_at "rd"
        have zf : decide (0 < dials (ss.take i)) = false := by rw [z]; rfl
        rw [zf]
        refine iteF ?_
        walk_at "rd"
        refine fin _ true (Ex.refl _) ?_
        rw [dials_more hs, hdl]
        simp
      | false =>
        refine iteF ?_
        walk_at "rd"
        refine fin _ _ (Ex.refl _) ?_
        rw [dials_more hs, hdl]
        simp
    · rintro σ G ⟨v4, v5, rfl, e⟩
      walk_at "rd"
      refine look_go (hv2.ex e) fun H2 e2 => ?_
      have hr : isRate (rateD rate) = true := by
        cases rate with
        | none => rfl
        | some r => simp [rateD, isRate, (R.rate r rfl).1]
      rw [hr]
      walk_at "rd"
      refine iteF ?_
      walk_at "rd"
      exact k _ ((e1.trans e).trans e2)
/-! ### tones -/
/-- what a stage makes of a number -/
def Stg.step (dial : Int) : Stg → Option Int → Option Int
  | _, none => none
  | .mix lo, some n => some (if n - lo < 0 then -(n - lo) else n - lo)
  | .dial a, some n => some (if n - (dial + a) < 0 then -(n - (dial + a)) else n - (dial + a))
  | .pass lo hi, some n => if lo ≤ n ∧ n ≤ hi then some n else none
def sampled (rate : Int) : Option Int → Option Int
  | none => none
  | some n => some (if rate - n % rate < n % rate then rate - n % rate else n % rate)
def tones (dial : Int) : List Stg → Option Int → List (Option Int)
  | [], _ => []
  | s :: ss, n => s.step dial n :: tones dial ss (s.step dial n)
def lastT (dial : Int) : List Stg → Option Int → Option Int
  | [], n => n
  | s :: ss, n => lastT dial ss (s.step dial n)
def allTones (dial : Int) (ss : List Stg) (rate : Option Int) (n : Int) : List (Option Int) :=
  tones dial ss (some n) ++ (match rate with | none => [] | some r => [sampled r (lastT dial ss (some n))])
def optV : Option Int → V
  | none => .non
  | some i => .int i
theorem tones_take (dial : Int) : ∀ (ss : List Stg) (n : Option Int) (i : Nat) (s : Stg), ss[i]? = some s → tones dial (ss.take (i + 1)) n = tones dial (ss.take i) n ++ [s.step dial (lastT dial (ss.take i) n)] ∧ lastT dial (ss.take (i + 1)) n = s.step dial (lastT dial (ss.take i) n)
  | [], _, _, _, h => by simp at h
  | t :: ss, n, 0, s, h => by
    simp at h
    subst h
    simp [tones, lastT]
  | t :: ss, n, i + 1, s, h => by
    have := tones_take dial ss (t.step dial n) i s (by simpa using h)
    simp only [List.take_succ_cons, tones, lastT]
    exact ⟨by rw [this.1]; rfl, this.2⟩
theorem tones_len (dial : Int) : ∀ (ss : List Stg) (n : Option Int), (tones dial ss n).length = ss.length
  | [], _ => rfl
  | s :: ss, n => by simp [tones, tones_len dial ss]
def Stg.center (dial : Int) : Stg → V
  | .mix lo => .int lo
  | .dial a => .int (dial + a)
  | .pass _ _ => .non
def spMixing : Sp := fun vs H Q _ => ∃ (x : V) (s : Stg) (dial : Int), vs = [x, .int dial] ∧ Dq H x s.d ∧ ∀ H', Ex H H' → Q (s.center dial) H'
abbrev s_mixing_tone : Stmt := top 6
theorem sc_mixing_tone : FnScope ["stage", "dial"] ["stage", "dial"] (defScope s_mixing_tone) := ⟨rfl, rfl, rfl, by decide +kernel, rfl, by decide +kernel, by decide +kernel⟩
theorem ok_mixing_tone {f : Addr} {fd : FuncData} (F : Fun K "mixing_tone" "mixing_tone" s_mixing_tone f fd) : FnOk P w K mg base CX0 1 f fd ["stage", "dial"] spMixing := by
  refine F.ok sc_mixing_tone (fun vs H Q E h => ?_) (fun cdv A outer s H vs Q E hr h => ?_)
  · obtain ⟨x, s, dial, rfl, _⟩ := h
    rfl
  · obtain ⟨x, s, dial, rfl, hd, k⟩ := h
    refine ⟨_, (pss_cons (ps_if (pt_cmpR op_eq (pe_ix ix_tup (pv 0) pe_int (fun _ _ => rfl)) pe_str (nomark _))
  (pss_one (ps_ret (pe_ix ix_tup (pv 0) pe_int (fun _ _ => rfl))))
  pss_nil)
  (pss_cons (ps_if (pt_cmpR op_eq (pe_ix ix_tup (pv 0) pe_int (fun _ _ => rfl)) pe_str (nomark _))
  (pss_one (ps_ret (pe_op op_add (pv 1) (pe_ix ix_tup (pv 0) pe_int (fun _ _ => rfl)))))
  pss_nil)
  (pss_one (ps_ret pe_non)))), ?_⟩
    obtain ⟨a, rfl, ha⟩ := stg_at hd
    have n1 : decide (V.str "dial" = V.str "mix") = false := by decide +kernel
    have n2 : decide (V.str "pass" = V.str "mix") = false := by decide +kernel
    have n3 : decide (V.str "pass" = V.str "dial") = false := by decide +kernel
    cases s with
    | mix lo =>
      have ha' : Rd H a (.tup [.str "mix", .int lo]) := ha
      walk_at "rd"
      refine ite2 (fun _ => ?_) (fun c => absurd (decide_eq_true rfl) c)
      walk_at "rd"
      exact k _ (Ex.refl _)
    | dial lo =>
      have ha' : Rd H a (.tup [.str "dial", .int lo]) := ha
      walk_at "rd"
      rw [n1]
      refine iteF ?_
      walk_at "rd"
      refine ite2 (fun _ => ?_) (fun c => absurd (decide_eq_true rfl) c)
      walk_at "rd"
      exact k _ (Ex.refl _)
    | pass lo hi =>
      have ha' : Rd H a (.tup [.str "pass", .int lo, .int hi]) := ha
      walk_at "rd"
      rw [n2]
      refine iteF ?_
      walk_at "rd"
      rw [n3]
      refine iteF ?_
      walk_at "rd"
      exact k _ (Ex.refl _)
def spBehind : Sp := fun vs H Q _ => ∃ (x : V) (s : Stg) (dial : Int) (n : Option Int), vs = [x, .int dial, optV n] ∧ Dq H x s.d ∧ ∀ H', Ex H H' → Q (optV (s.step dial n)) H'
abbrev s_behind_stage : Stmt := top 7
theorem sc_behind_stage : FnScope ["stage", "dial", "number", "center"] ["stage", "dial", "number"] (defScope s_behind_stage) := ⟨rfl, rfl, rfl, by decide +kernel, rfl, by decide +kernel, by decide +kernel⟩
theorem ok_behind_stage {f : Addr} {fd : FuncData} (F : Fun K "behind_stage" "behind_stage" s_behind_stage f fd) (m_abs : mg "abs" = none) (h_mixing_tone : Has P w K mg base 1 "mixing_tone" spMixing) : FnOk P w K mg base CX0 2 f fd ["stage", "dial", "number"] spBehind := by
  refine F.ok sc_behind_stage (fun vs H Q E h => ?_) (fun cdv A outer s H vs Q E hr h => ?_)
  · obtain ⟨x, s, dial, n, rfl, _⟩ := h
    rfl
  · obtain ⟨x, s, dial, n, rfl, hd, k⟩ := h
    refine ⟨_, (pss_cons (ps_if (pt_cmpR op_isN1 (pv 2) pe_non (nomark _))
  (pss_one (ps_ret pe_non))
  pss_nil)
  (pss_cons (ps_set (i := 3) sc_behind_stage.nd rfl (Or.inl rfl) (pe_hs h_mixing_tone hr rfl (pa_cons (pv 0) (pa_cons (pv 1) pa_nil))))
  (pss_cons (ps_if (pt_cmpR op_notN1 (pv 3) pe_non (nomark _))
  (pss_one (ps_ret (pe_callB call_absQ rfl m_abs (by decide +kernel) (pa_cons (pe_op op_sub (pv 2) (pv 3)) pa_nil))))
  pss_nil)
  (pss_cons (ps_if (pt_chain op_le op_le (pe_ix ix_tup (pv 0) pe_int (fun _ _ => rfl)) (pv 2) (pe_ix ix_tup (pv 0) pe_int (fun _ _ => rfl)))
  (pss_one (ps_ret (pv 2)))
  pss_nil)
  (pss_one (ps_ret pe_non)))))), ?_⟩
    cases n with
    | none =>
      walk_at "rd"
      refine ite2 (fun _ => ?_) (fun c => absurd (decide_eq_true rfl) c)
      walk_at "rd"
      have e : s.step dial none = none := by cases s <;> rfl
      have := k H (Ex.refl _)
      rw [e] at this
      exact this
    | some n =>
      have hi : decide (optV (some n) = V.non) = false := by simp [optV]
      walk_at "rd"
      rw [hi]
      refine iteF ?_
      walk_at "rd"
      refine ⟨x, s, dial, rfl, hd, fun H1 e1 => ?_⟩
      walk_at "rd"
      cases s with
      | mix lo =>
        have h2 : (!decide ((Stg.mix lo).center dial = V.non)) = true := by simp [Stg.center]
        rw [h2]
        refine iteT ?_
        show tRet (tCB rAbsQ (tCons (tOp (rI0 fun i j => .int (i - j)) (tVar 2) (tVar 3)) tNil)) _ [some x, some (.int dial), some (.int n), some (.int lo)] H1
        walk_at "rd"
        exact k _ e1
      | dial lo =>
        have h2 : (!decide ((Stg.dial lo).center dial = V.non)) = true := by simp [Stg.center]
        rw [h2]
        refine iteT ?_
        show tRet (tCB rAbsQ (tCons (tOp (rI0 fun i j => .int (i - j)) (tVar 2) (tVar 3)) tNil)) _ [some x, some (.int dial), some (.int n), some (.int (dial + lo))] H1
        walk_at "rd"
        exact k _ e1
      | pass lo hi =>
        have h2 : (!decide ((Stg.pass lo hi).center dial = V.non)) = false := by simp [Stg.center]
        rw [h2]
        refine iteF ?_
        obtain ⟨a, rfl, ha⟩ := stg_at (hd.ex e1)
        have ha' : Rd H1 a (.tup [.str "pass", .int lo, .int hi]) := ha
        have hn : optV (some n) = .int n := rfl
        walk_at "rd"
        rw [hn]
        walk_at "rd"
        have fin : ∀ r, (if lo ≤ n ∧ n ≤ hi then some n else none) = r → Q (optV r) H1 := fun r e => by
          have := k H1 e1
          rw [show (Stg.pass lo hi).step dial (some n) = (if lo ≤ n ∧ n ≤ hi then some n else none) from rfl, e] at this
          exact this
        refine ite2 (fun c1 => ?_) (fun c1 => ?_)
        · have c1' : lo ≤ n := by simpa using c1
          walk_at "rd"
          refine ite2 (fun c2 => ?_) (fun c2 => ?_)
          · have c2' : n ≤ hi := by simpa using c2
            walk_at "rd"
            exact fin (some n) (if_pos ⟨c1', c2'⟩)
          · have c2' : ¬ n ≤ hi := by simpa using c2
            walk_at "rd"
            exact fin none (if_neg fun z => c2' z.2)
        · have c1' : ¬ lo ≤ n := by simpa using c1
          walk_at "rd"
          refine iteF ?_
          walk_at "rd"
          exact fin none (if_neg fun z => c1' z.1)
def spSampler : Sp := fun vs H Q _ => ∃ (r : Int) (n : Option Int), vs = [.int r, optV n] ∧ 2 ≤ r ∧ ∀ H', Ex H H' → Q (optV (sampled r n)) H'
abbrev s_behind_sampler : Stmt := top 8
theorem sc_behind_sampler : FnScope ["rate", "number", "above"] ["rate", "number"] (defScope s_behind_sampler) := ⟨rfl, rfl, rfl, by decide +kernel, rfl, by decide +kernel, by decide +kernel⟩
theorem ok_behind_sampler {f : Addr} {fd : FuncData} (F : Fun K "behind_sampler" "behind_sampler" s_behind_sampler f fd) (m_min : mg "min" = none) : FnOk P w K mg base CX0 1 f fd ["rate", "number"] spSampler := by
  refine F.ok sc_behind_sampler (fun vs H Q E h => ?_) (fun cdv A outer s H vs Q E hr h => ?_)
  · obtain ⟨r, n, rfl, _⟩ := h
    rfl
  · obtain ⟨r, n, rfl, h2, k⟩ := h
    refine ⟨_, (pss_cons (ps_if (PW.pt (pw_or (pt_cmpR op_isN1 (pv 1) pe_non (nomark _)) (pw_or1 (pt_cmpR op_isN1 (pv 0) pe_non (nomark _)))))
  (pss_one (ps_ret (pv 1)))
  pss_nil)
  (pss_cons (ps_set (i := 2) sc_behind_sampler.nd rfl (Or.inl rfl) (pe_op op_mod (pv 1) (pv 0)))
  (pss_one (ps_ret (pe_callB (call_minQ rfl) rfl m_min boot_min (pa_cons (pv 2) (pa_cons (pe_op op_sub (pv 0) (pv 2)) pa_nil))))))), ?_⟩
    have h0 : 0 < r := by omega
    cases n with
    | none =>
      walk_at "rd"
      refine ite2 (fun _ => ?_) (fun c => absurd (decide_eq_true rfl) c)
      refine iteT ?_
      walk_at "rd"
      exact k _ (Ex.refl _)
    | some n =>
      have hi : decide (optV (some n) = V.non) = false := by simp [optV]
      have hn : optV (some n) = .int n := rfl
      walk_at "rd"
      rw [hi]
      refine iteF ?_
      walk_at "rd"
      refine ite2 (fun c => absurd (of_decide_eq_true c) (by simp)) (fun _ => ?_)
      walk_at "rd"
      rw [hn]
      walk_at "rd"
      exact k _ (Ex.refl _)
end
end Kx

set_option Elab.async false
set_option linter.all false
set_option maxRecDepth 100000
set_option maxHeartbeats 2000000

namespace Kx
open PySem PySem.Spec PyProof.Rows L2 HX
open Evl (Ex)
local macro_rules | `(tactic| walk_at "side") => `(tactic| first | assumption | ((try dsimp only); first | assumption | decide +kernel | omega | exact ⟨by decide, by decide⟩ | (left; decide) | (left; omega) | (refine Or.inl ⟨?_, ?_⟩ <;> omega) | (refine Or.inr ⟨?_, ?_⟩ <;> omega)))
local macro_rules | `(tactic| walk_at "heap") => `(tactic| first | assumption | exact upd_same | exact Or.inl (by assumption) | exact Or.inl upd_same)
local macro_rules | `(tactic| walk_at "item") => `(tactic| first | exact rfl | exact atI_nat (j := 0) rfl | exact atI_nat (j := 1) rfl | exact atI_nat (j := 2) rfl | assumption)
local macro_rules | `(tactic| walk_at "rd") => `(tactic| repeat (first
  | ((with_reducible refine' go_var ?hv ?_); (case hv => exact rfl))
  | with_reducible refine' go_c ?_
  | with_reducible refine' go_op ?_
  | with_reducible refine' go_seq ?_
  | with_reducible refine' go_asg ?_
  | with_reducible refine' go_name ?_
  | with_reducible refine' go_cons ?_
  | with_reducible refine' go_nil ?_
  | with_reducible refine' go_cb ?_
  | with_reducible refine' go_call ?_
  | with_reducible refine' go_ifS ?_
  | with_reducible refine' go_test ?_
  | with_reducible refine' go_bl ?_
  | with_reducible refine' go_ret ?_
  | with_reducible refine' go_I0 ?_
  | ((with_reducible refine' go_I ?cc ?_); (case cc => walk_at "side"))
  | ((with_reducible refine' go_ixL ?hh ?hk ?_); (case hh => walk_at "heap"); (case hk => walk_at "item"))
  | ((with_reducible refine' go_ixT ?hh ?hk ?_); (case hh => walk_at "heap"); (case hk => walk_at "item"))
  | ((with_reducible refine' go_lenL ?hh ?_); (case hh => walk_at "heap"))
  | ((with_reducible refine' go_lenT ?hh ?_); (case hh => walk_at "heap"))
  | ((with_reducible refine' go_setL ?hh ?hk ?_); (case hh => walk_at "heap"); (case hk => walk_at "item"))
  | with_reducible refine' go_abs ?_
  | with_reducible refine' go_max ?_
  | with_reducible refine' go_min ?_
  | with_reducible refine' go_int ?_
  | with_reducible refine' go_intB ?_
  | (with_reducible refine' go_eq rfl ?_)
  | (with_reducible refine' go_ne rfl ?_)
  | with_reducible refine' go_isN ?_
  | with_reducible refine' go_notN ?_
  | with_reducible refine' go_if ?_
  | with_reducible refine' go_sub ?_
  | with_reducible refine' go_par ?_
  | with_reducible refine' go_sl ?_
  | with_reducible refine' go_part ?_
  | with_reducible refine' go_pint ?_
  | with_reducible refine' go_nopart ?_
  | ((with_reducible refine' go_lenL ?hh ?_); (case hh => walk_at "heap"))
  | ((with_reducible refine' go_lenT ?hh ?_); (case hh => walk_at "heap"))
  | ((with_reducible refine' go_lenS ?hh ?_); (case hh => assumption))
  | with_reducible refine' go_gcons ?_
  | with_reducible refine' go_gnil ?_
  | with_reducible refine' go_kw ?_
  | with_reducible refine' go_par2 ?_
  | with_reducible refine' go_next ?_
  | with_reducible refine' go_drop ?_
  | with_reducible refine' go_and ?_
  | with_reducible refine' go_or ?_
  | with_reducible refine' go_not ?_
  | with_reducible refine' go_B ?_
  | with_reducible refine' go_andV ?_
  | with_reducible refine' go_orV ?_
  | with_reducible refine' go_notV ?_
  | with_reducible refine' go_chain ?_
  | with_reducible refine' go_un ?_
  | with_reducible refine' go_U ?_
  | with_reducible refine' go_bm ?_
  | with_reducible refine' go_tup ?_
  | with_reducible refine' go_lst ?_
  | with_reducible refine' go_forR1 ?_
  | with_reducible refine' go_forR2 ?_
  | with_reducible refine' go_forL ?_
  | with_reducible refine' go_forT ?_
  | with_reducible refine' go_forE ?_
  | with_reducible refine' go_lcR1 ?_
  | with_reducible refine' go_lcL ?_
  | with_reducible refine' go_lcT ?_
  | ((with_reducible refine' go_tyL ?hh ?_); (case hh => walk_at "heap"))
  | ((with_reducible refine' go_new ?hz ?_); (case hz => exact Nat.le_of_ble_eq_true rfl))
  | (with_reducible refine' ⟨_, rfl, ?_⟩)
  ))
--MACEND
section
variable {P : Program} {w : World} {K : PySem.W.Frag} {mg : Str → Option Value} {base : Heap}
def spTones : Sp := fun vs H Q _ => ∃ (x : V) (dial n b : Int) (ss : List Stg) (rate : Option Int), vs = [x, .int dial, .int n] ∧ Dq H x (radD ss rate) ∧ Rad b ss rate ∧ 0 ≤ n ∧
  ∀ p H', H p = none → Ex H H' → H' p = some (.lst ((allTones dial ss rate n).map optV)) → Q (.ref p) H'
abbrev s_stage_tones : Stmt := top 23
theorem sc_stage_tones : FnScope ["receiver", "dial", "signal", "stages", "rate", "number", "tones", "stage"] ["receiver", "dial", "signal"] (defScope s_stage_tones) := ⟨rfl, rfl, rfl, by decide +kernel, rfl, by decide +kernel, by decide +kernel⟩
theorem ok_stage_tones {f : Addr} {fd : FuncData} (F : Fun K "stage_tones" "stage_tones" s_stage_tones f fd) (h_check_receiver : Has P w K mg base 5 "check_receiver" spRecv) (h_check_dial : Has P w K mg base 2 "check_dial" (spCheck isInt))
    (h_check_signal : Has P w K mg base 3 "check_signal" (spCheck isNat)) (h_behind_stage : Has P w K mg base 2 "behind_stage" spBehind) (h_behind_sampler : Has P w K mg base 1 "behind_sampler" spSampler) :
    FnOk P w K mg base CX0 6 f fd ["receiver", "dial", "signal"] spTones := by
  refine F.ok sc_stage_tones (fun vs H Q E h => ?_) (fun cdv A outer s H vs Q E hr h => ?_)
  · obtain ⟨x, dial, n, b, ss, rate, rfl, _⟩ := h
    rfl
  · obtain ⟨x, dial, n, b, ss, rate, rfl, hd, R, hn, k⟩ := h
    refine ⟨_, (pss_cons (ps_expr (pe_hs h_check_receiver hr rfl (pa_cons (pv 0) pa_nil)))
  (pss_cons (ps_expr (pe_hs h_check_dial hr rfl (pa_cons (pv 1) pa_nil)))
  (pss_cons (ps_expr (pe_hs h_check_signal hr rfl (pa_cons (pv 2) pa_nil)))
  (pss_cons (ps_asg (pv 0) (pg_tup (by rfl) (pgs_cons (pg_name (i := 3) sc_stage_tones.nd rfl (Or.inl rfl)) (pgs_cons (pg_name (i := 4) sc_stage_tones.nd rfl (Or.inl rfl)) pgs_nil))))
  (pss_cons (ps_set (i := 5) sc_stage_tones.nd rfl (Or.inl rfl) (pv 2))
  (pss_cons (ps_set (i := 6) sc_stage_tones.nd rfl (Or.inl rfl) (pe_lst pa_nil))
  (pss_cons (ps_for PassesOwn.never rfl (pi_list (pv 3)) (pg_name (i := 7) sc_stage_tones.nd rfl (Or.inl rfl))
  (pss_cons (ps_set (i := 5) sc_stage_tones.nd rfl (Or.inl rfl) (pe_hs h_behind_stage hr rfl (pa_cons (pv 7) (pa_cons (pv 1) (pa_cons (pv 5) pa_nil)))))
  (pss_one (ps_expr (pe_bm PySem.F.plainAttrs_list PySem.F.slot_list_append PySem.F.type_list_append mt_append (pv 6) (pa_cons (pv 5) pa_nil))))))
  (pss_cons (ps_if (pt_cmpR op_notN1 (pv 4) pe_non (nomark _))
  (pss_one (ps_expr (pe_bm PySem.F.plainAttrs_list PySem.F.slot_list_append PySem.F.type_list_append mt_append (pv 6) (pa_cons (pe_hs h_behind_sampler hr rfl (pa_cons (pv 4) (pa_cons (pv 5) pa_nil))) pa_nil))))
  pss_nil)
  (pss_one (ps_ret (pv 6))))))))))), ?_⟩
    walk_at "rd"
    refine ⟨x, b, ss, rate, rfl, hd, R, fun H1 e1 => ?_⟩
    walk_at "rd"
    refine check_go (.int dial) rfl fun H2 e2 => ?_
    walk_at "rd"
    refine check_go (.int n) (decide_eq_true hn) fun H3 e3 => ?_
    have e := (e1.trans e2).trans e3
    walk_at "rd"
    obtain ⟨a, xs, rfl, ha, hda⟩ := (hd.ex e).tupleAt
    obtain ⟨v1, v2, d1, d2, rfl, ed, hv1, hv2⟩ := dqa2 hda rfl
    obtain ⟨rfl, rfl⟩ : PyData.list (ss.map Stg.d) = d1 ∧ rateD rate = d2 := by simpa using ed
    obtain ⟨l, ys, rfl, hl, hys⟩ := hv1.listAt
    refine go_gtup (.inl ha) rfl ?_
    walk_at "rd"
    intro t ht
    walk_at "rd"
    refine ⟨⟨ys, .inl (Evl.ex_rd (Ex.new ht) hl)⟩, ?_⟩
    refine run_forL ys (fun i σ G => ∃ v7 : Option V, σ = [some (.ref a), some (.int dial), some (.int n), some (.ref l), some v2, some (optV (lastT dial (ss.take i) (some n))), some (.ref t), v7] ∧ Ex H3 G ∧
        G t = some (.lst ((tones dial (ss.take i) (some n)).map optV))) ?_ ?_ ?_ ?_
    · exact ⟨_, rfl, Ex.new ht, upd_same⟩
    · rintro i σ G _ ⟨v7, rfl, eG, _⟩
      exact .inl (Evl.ex_rd eG hl)
    · rintro i y σ G hi ⟨v7, rfl, eG, hG⟩
      obtain ⟨s, hs, hds⟩ := dqa_get hys hi
      walk_at "rd"
      refine ⟨y, s, dial, _, rfl, hds.ex eG, fun G1 e4 => ?_⟩
      have hG1 := e4 _ _ hG
      walk_at "rd"
      refine go_app hG1 ?_ ?_
      · rw [List.length_map, tones_len, List.length_take]
        exact Nat.lt_of_le_of_lt (Nat.le_trans (Nat.min_le_right _ _) R.le) (by decide)
      · obtain ⟨t1, t2⟩ := tones_take dial ss (some n) i s hs
        refine ⟨some y, by rw [t2]; rfl, Ex.mut (eG.trans e4) ht, ?_⟩
        rw [t1, List.map_append]
        exact upd_same
    · rintro σ G ⟨v7, rfl, eG, hG⟩
      have hlen : ys.length = ss.length := by rw [hys.len, List.length_map]
      rw [hlen, List.take_length] at hG ⊢
      walk_at "rd"
      cases rate with
      | none =>
        have hz : (!decide (v2 = V.non)) = false := by cases hv2; simp
        rw [hz]
        refine iteF ?_
        walk_at "rd"
        refine k t G ?_ (e.trans eG) (by simpa [allTones] using hG)
        exact Evl.fresh_back e ht
      | some r =>
        cases hv2
        have hz : (!decide (V.int r = V.non)) = true := by simp
        rw [hz]
        refine iteT ?_
        walk_at "rd"
        refine ⟨r, _, rfl, (R.rate r rfl).1, fun G1 e4 => ?_⟩
        have hG1 := e4 _ _ hG
        walk_at "rd"
        refine go_app hG1 ?_ ?_
        · rw [List.length_map, tones_len]
          exact Nat.lt_of_le_of_lt R.le (by decide)
        · walk_at "rd"
          refine k t _ (Evl.fresh_back e ht) (e.trans (Ex.mut (eG.trans e4) ht)) ?_
          rw [upd_same]
          simp [allTones]
end
end Kx

set_option Elab.async false
set_option linter.all false
set_option maxRecDepth 100000
set_option maxHeartbeats 2000000

namespace Kx
open PySem PySem.Spec PyProof.Rows L2 HX
open Evl (Ex)
local macro_rules | `(tactic| walk_at "side") => `(tactic| first | assumption | ((try dsimp only); first | assumption | decide +kernel | omega | exact ⟨by decide, by decide⟩ | (left; decide) | (left; omega) | (refine Or.inl ⟨?_, ?_⟩ <;> omega) | (refine Or.inr ⟨?_, ?_⟩ <;> omega)))
local macro_rules | `(tactic| walk_at "heap") => `(tactic| first | assumption | exact upd_same | exact Or.inl (by assumption) | exact Or.inl upd_same)
local macro_rules | `(tactic| walk_at "item") => `(tactic| first | exact rfl | exact atI_nat (j := 0) rfl | exact atI_nat (j := 1) rfl | exact atI_nat (j := 2) rfl | assumption)
local macro_rules | `(tactic| walk_at "rd") => `(tactic| repeat (first
  | ((with_reducible refine' go_var ?hv ?_); (case hv => exact rfl))
  | with_reducible refine' go_c ?_
  | with_reducible refine' go_op ?_
  | with_reducible refine' go_seq ?_
  | with_reducible refine' go_asg ?_
  | with_reducible refine' go_name ?_
  | with_reducible refine' go_cons ?_
  | with_reducible refine' go_nil ?_
  | with_reducible refine' go_cb ?_
  | with_reducible refine' go_call ?_
  | with_reducible refine' go_ifS ?_
  | with_reducible refine' go_test ?_
  | with_reducible refine' go_bl ?_
  | with_reducible refine' go_ret ?_
  | with_reducible refine' go_I0 ?_
  | ((with_reducible refine' go_I ?cc ?_); (case cc => walk_at "side"))
  | ((with_reducible refine' go_ixL ?hh ?hk ?_); (case hh => walk_at "heap"); (case hk => walk_at "item"))
  | ((with_reducible refine' go_ixT ?hh ?hk ?_); (case hh => walk_at "heap"); (case hk => walk_at "item"))
  | ((with_reducible refine' go_lenL ?hh ?_); (case hh => walk_at "heap"))
  | ((with_reducible refine' go_lenT ?hh ?_); (case hh => walk_at "heap"))
  | ((with_reducible refine' go_setL ?hh ?hk ?_); (case hh => walk_at "heap"); (case hk => walk_at "item"))
  | with_reducible refine' go_abs ?_
  | with_reducible refine' go_max ?_
  | with_reducible refine' go_min ?_
  | with_reducible refine' go_int ?_
  | with_reducible refine' go_intB ?_
  | (with_reducible refine' go_eq rfl ?_)
  | (with_reducible refine' go_ne rfl ?_)
  | with_reducible refine' go_isN ?_
  | with_reducible refine' go_notN ?_
  | with_reducible refine' go_if ?_
  | with_reducible refine' go_sub ?_
  | with_reducible refine' go_par ?_
  | with_reducible refine' go_sl ?_
  | with_reducible refine' go_part ?_
  | with_reducible refine' go_pint ?_
  | with_reducible refine' go_nopart ?_
  | ((with_reducible refine' go_lenL ?hh ?_); (case hh => walk_at "heap"))
  | ((with_reducible refine' go_lenT ?hh ?_); (case hh => walk_at "heap"))
  | ((with_reducible refine' go_lenS ?hh ?_); (case hh => assumption))
  | with_reducible refine' go_gcons ?_
  | with_reducible refine' go_gnil ?_
  | with_reducible refine' go_kw ?_
  | with_reducible refine' go_par2 ?_
  | with_reducible refine' go_next ?_
  | with_reducible refine' go_drop ?_
  | with_reducible refine' go_and ?_
  | with_reducible refine' go_or ?_
  | with_reducible refine' go_not ?_
  | with_reducible refine' go_B ?_
  | with_reducible refine' go_andV ?_
  | with_reducible refine' go_orV ?_
  | with_reducible refine' go_notV ?_
  | with_reducible refine' go_chain ?_
  | with_reducible refine' go_un ?_
  | with_reducible refine' go_U ?_
  | with_reducible refine' go_bm ?_
  | with_reducible refine' go_tup ?_
  | with_reducible refine' go_lst ?_
  | with_reducible refine' go_forR1 ?_
  | with_reducible refine' go_forR2 ?_
  | with_reducible refine' go_forL ?_
  | with_reducible refine' go_forT ?_
  | with_reducible refine' go_forE ?_
  | with_reducible refine' go_lcR1 ?_
  | with_reducible refine' go_lcL ?_
  | with_reducible refine' go_lcT ?_
  | ((with_reducible refine' go_tyL ?hh ?_); (case hh => walk_at "heap"))
  | ((with_reducible refine' go_new ?hz ?_); (case hz => exact Nat.le_of_ble_eq_true rfl))
  | (with_reducible refine' ⟨_, rfl, ?_⟩)
  ))
--MACEND
/-- the last tone -/
def lastAll (dial : Int) (ss : List Stg) (rate : Option Int) (n : Int) : Option Int := match rate with
  | none => lastT dial ss (some n)
  | some r => sampled r (lastT dial ss (some n))
theorem tones_last (dial : Int) : ∀ (ss : List Stg) (n : Option Int), ss ≠ [] → ∃ l, tones dial ss n = l ++ [lastT dial ss n]
  | [], _, h => absurd rfl h
  | [s], n, _ => ⟨[], rfl⟩
  | s :: t :: ss, n, _ => by
    obtain ⟨l, h⟩ := tones_last dial (t :: ss) (s.step dial n) (by simp)
    exact ⟨s.step dial n :: l, by simp only [tones, lastT] at h ⊢; rw [h]; rfl⟩
theorem all_last (dial : Int) (ss : List Stg) (rate : Option Int) (n : Int) (h : ss ≠ []) : ∃ l, allTones dial ss rate n = l ++ [lastAll dial ss rate n] := by
  cases rate with
  | none =>
    obtain ⟨l, e⟩ := tones_last dial ss (some n) h
    exact ⟨l, by simp [allTones, lastAll, e]⟩
  | some r => exact ⟨_, rfl⟩
theorem at_last {l : List (Option Int)} {x : Option Int} : atI ((l ++ [x]).map optV) (-1) = some (optV x) := by
  rw [List.map_append]
  exact atI_last _ _
/-- distances by sums and differences -/
theorem far_max (n c : Int) : (if c > n then c else n) * 2 - n - c = if n - c < 0 then -(n - c) else n - c := by
  split <;> split <;> omega
theorem mod_neg (n r : Int) (h : 0 < r) : (0 - n) % r = if n % r = 0 then 0 else r - n % r := by
  have e : n = r * (n / r) + n % r := (Int.mul_ediv_add_emod n r).symm
  have h0 := Int.emod_nonneg n (show r ≠ 0 by omega)
  have h1 := Int.emod_lt_of_pos n h
  have e2 : 0 - n = -(n % r) + r * (-(n / r)) := by
    rw [Int.mul_neg]
    omega
  rw [e2, Int.add_mul_emod_self_left]
  split
  · rename_i z
    rw [z]
    rfl
  · rename_i z
    have e3 : -(n % r) = (r - n % r) + r * (-1) := by omega
    rw [e3, Int.add_mul_emod_self_left]
    exact Int.emod_eq_of_lt (by omega) (by omega)
theorem sampled_min (n r : Int) (h : 0 < r) : sampled r (some n) = some (if (0 - n) % r < n % r then (0 - n) % r else n % r) := by
  have h0 := Int.emod_nonneg n (show r ≠ 0 by omega)
  have h1 := Int.emod_lt_of_pos n h
  have e : (if (0 - n) % r < n % r then (0 - n) % r else n % r) = if r - n % r < n % r then r - n % r else n % r := by
    rw [mod_neg n r h]
    generalize n % r = m at *
    by_cases hm : m = 0
    · subst hm
      rw [if_pos rfl, if_neg (by omega), if_neg (by omega)]
    · rw [if_neg hm]
  rw [e]
  rfl
section
variable {P : Program} {w : World} {K : PySem.W.Frag} {mg : Str → Option Value} {base : Heap}
def spTone : Sp := fun vs H Q _ => ∃ (x : V) (dial n b : Int) (ss : List Stg) (rate : Option Int), vs = [x, .int dial, .int n] ∧ Dq H x (radD ss rate) ∧ Rad b ss rate ∧ 0 ≤ n ∧ ∀ H', Ex H H' → Q (optV (lastAll dial ss rate n)) H'
abbrev s_tone_at : Stmt := top 22
theorem sc_tone_at : FnScope ["receiver", "dial", "signal"] ["receiver", "dial", "signal"] (defScope s_tone_at) := ⟨rfl, rfl, rfl, by decide +kernel, rfl, by decide +kernel, by decide +kernel⟩
theorem ok_tone_at {f : Addr} {fd : FuncData} (F : Fun K "tone_at" "tone_at" s_tone_at f fd) (h_stage_tones : Has P w K mg base 6 "stage_tones" spTones) : FnOk P w K mg base CX0 7 f fd ["receiver", "dial", "signal"] spTone := by
  refine F.ok sc_tone_at (fun vs H Q E h => ?_) (fun cdv A outer s H vs Q E hr h => ?_)
  · obtain ⟨x, dial, n, b, ss, rate, rfl, _⟩ := h
    rfl
  · obtain ⟨x, dial, n, b, ss, rate, rfl, hd, R, hn, k⟩ := h
    refine ⟨_, (pss_one (ps_ret (pe_ix ix_list (pe_hs h_stage_tones hr rfl (pa_cons (pv 0) (pa_cons (pv 1) (pa_cons (pv 2) pa_nil)))) (pe_un un_neg pe_int) (fun _ _ => rfl)))), ?_⟩
    obtain ⟨l, el⟩ := all_last dial ss rate n R.ne
    walk_at "rd"
    refine ⟨x, dial, n, b, ss, rate, rfl, hd, R, hn, fun p H' hp e h => ?_⟩
    rw [el] at h
    walk_at "rd"
    refine go_ixL (.inl h) at_last ?_
    exact k _ e
/-- the law's own tones -/
def spParts : Sp := fun vs H Q _ => ∃ (x : V) (dial n b : Int) (ss : List Stg) (rate : Option Int), vs = [x, .int dial, .int n] ∧ Dq H x (radD ss rate) ∧ Rad b ss rate ∧
  ∀ p H', H p = none → Ex H H' → H' p = some (.lst ((allTones dial ss rate n).map optV)) → Q (.ref p) H'
abbrev s__law_parts : Stmt := top 28
theorem sc__law_parts : FnScope ["radio", "tuned", "wave", "found", "here", "stage"] ["radio", "tuned", "wave"] (defScope s__law_parts) := ⟨rfl, rfl, rfl, by decide +kernel, rfl, by decide +kernel, by decide +kernel⟩
theorem ok_law_parts {f : Addr} {fd : FuncData} (F : Fun K "_law_parts" "_law_parts" s__law_parts f fd) (m_max : mg "max" = none) (m_min : mg "min" = none) (m_int : mg "int" = none) : FnOk P w K mg base CX0 1 f fd ["radio", "tuned", "wave"] spParts := by
  refine F.ok sc__law_parts (fun vs H Q E h => ?_) (fun cdv A outer s H vs Q E hr h => ?_)
  · obtain ⟨x, dial, n, b, ss, rate, rfl, _⟩ := h
    rfl
  · obtain ⟨x, dial, n, b, ss, rate, rfl, hd, R, k⟩ := h
    refine ⟨_, (pss_cons (ps_par (i := 3) (j := 4) (by rfl) sc__law_parts.nd rfl rfl (by decide) rfl rfl (pa_cons (pe_lst pa_nil) (pa_cons (pv 2) pa_nil)) (by rfl))
  (pss_cons (ps_for PassesOwn.never rfl (pi_list (pe_ix ix_tup (pv 0) pe_int (fun _ _ => rfl))) (pg_name (i := 5) sc__law_parts.nd rfl (Or.inl rfl))
  (pss_cons (ps_if (PW.pt (pw_and (pt_cmpR op_notN1 (pv 4) pe_non (nomark _)) (pw_and1 (pt_cmpR op_eq (pe_ix ix_tup (pv 5) pe_int (fun _ _ => rfl)) pe_str (nomark _)))))
  (pss_one (ps_set (i := 4) sc__law_parts.nd rfl (Or.inl rfl) (pe_ifExp (PW.pt (pw_or (pt_cmpR op_lt (pv 4) (pe_ix ix_tup (pv 5) pe_int (fun _ _ => rfl)) (nomark _)) (pw_or1 (pt_cmpR op_gt (pv 4) (pe_ix ix_tup (pv 5) pe_int (fun _ _ => rfl)) (nomark _))))) pe_non (pv 4))))
  (pss_one (ps_if (pt_cmpR op_notN1 (pv 4) pe_non (nomark _))
  (pss_cons (ps_set (i := 4) sc__law_parts.nd rfl (Or.inl rfl) (pe_op op_sub (pe_op op_sub (pe_op op_mul (pe_callB (call_maxQ rfl) rfl m_max boot_max (pa_cons (pv 4) (pa_cons (pe_op op_add (pe_ix ix_tup (pv 5) pe_int (fun _ _ => rfl)) (pe_ifExp (pt_cmpR op_eq (pe_ix ix_tup (pv 5) pe_int (fun _ _ => rfl)) pe_str (nomark _)) (pv 1) pe_int)) pa_nil))) pe_int) (pv 4)) (pe_ix ix_tup (pv 5) pe_int (fun _ _ => rfl))))
  (pss_one (ps_set (i := 4) sc__law_parts.nd rfl (Or.inl rfl) (pe_op op_sub (pv 4) (pe_ifExp (pt_cmpR op_eq (pe_ix ix_tup (pv 5) pe_int (fun _ _ => rfl)) pe_str (nomark _)) (pv 1) pe_int)))))
  pss_nil)))
  (pss_one (ps_expr (pe_bm PySem.F.plainAttrs_list PySem.F.slot_list_append PySem.F.type_list_append mt_append (pv 3) (pa_cons (pv 4) pa_nil))))))
  (pss_cons (ps_if (pt_cmpR op_notN1 (pe_ix ix_tup (pv 0) pe_int (fun _ _ => rfl)) pe_non (nomark _))
  (pss_one (ps_expr (pe_bm PySem.F.plainAttrs_list PySem.F.slot_list_append PySem.F.type_list_append mt_append (pv 3) (pa_cons (pe_ifExp (pt_cmpR op_isN1 (pv 4) pe_non (nomark _)) pe_non (pe_callB (call_minQ rfl) rfl m_min boot_min (pa_cons (pe_op op_mod (pe_callTy call_intQ rfl m_int boot_int (pa_cons (pv 4) pa_nil)) (pe_ix ix_tup (pv 0) pe_int (fun _ _ => rfl))) (pa_cons (pe_op op_mod (pe_callTy call_intQ rfl m_int boot_int (pa_cons (pe_op op_sub pe_int (pv 4)) pa_nil)) (pe_ix ix_tup (pv 0) pe_int (fun _ _ => rfl))) pa_nil)))) pa_nil))))
  pss_nil)
  (pss_one (ps_ret (pv 3)))))), ?_⟩
    have n1 : decide (V.str "dial" = V.str "pass") = false := by decide +kernel
    have n2 : decide (V.str "mix" = V.str "pass") = false := by decide +kernel
    have n3 : decide (V.str "mix" = V.str "dial") = false := by decide +kernel
    obtain ⟨a, xs, rfl, ha, hda⟩ := hd.tupleAt
    obtain ⟨v1, v2, d1, d2, rfl, ed, hv1, hv2⟩ := dqa2 hda rfl
    obtain ⟨rfl, rfl⟩ : PyData.list (ss.map Stg.d) = d1 ∧ rateD rate = d2 := by simpa using ed
    obtain ⟨l, ys, rfl, hl, hys⟩ := hv1.listAt
    walk_at "rd"
    intro t ht
    walk_at "rd"
    have ha0 := Evl.ex_rd (Ex.new (o := HO.lst []) ht) ha
    walk_at "rd"
    refine ⟨⟨ys, .inl (Evl.ex_rd (Ex.new ht) hl)⟩, ?_⟩
    refine run_forL ys (fun i σ G => ∃ v5 : Option V, σ = [some (.ref a), some (.int dial), some (.int n), some (.ref t), some (optV (lastT dial (ss.take i) (some n))), v5] ∧ Ex H G ∧
        G t = some (.lst ((tones dial (ss.take i) (some n)).map optV))) ?_ ?_ ?_ ?_
    · exact ⟨_, rfl, Ex.new ht, upd_same⟩
    · rintro i σ G _ ⟨v7, rfl, eG, _⟩
      exact .inl (Evl.ex_rd eG hl)
    · rintro i y σ G hi ⟨v7, rfl, eG, hG⟩
      obtain ⟨s, hs, hds⟩ := dqa_get hys hi
      obtain ⟨q, rfl, hq⟩ := stg_at (hds.ex eG)
      obtain ⟨t1, t2⟩ := tones_take dial ss (some n) i s hs
      have fin : ∀ z : V, z = optV (s.step dial (lastT dial (ss.take i) (some n))) → tDrop (tBM K "list" rAppend (tVar 3) (tCons (tVar 4) tNil))
          { nx := fun σ G => ∃ v5 : Option V, σ = [some (.ref a), some (.int dial), some (.int n), some (.ref t), some (optV (lastT dial (ss.take (i + 1)) (some n))), v5] ∧ Ex H G ∧ G t = some (.lst ((tones dial (ss.take (i + 1)) (some n)).map optV)),
            rt := Q, bk := fun _ _ => True, ct := fun _ _ => True } [some (.ref a), some (.int dial), some (.int n), some (.ref t), some z, some (.ref q)] G := fun z hz => by
        walk_at "rd"
        refine go_app hG ?_ ?_
        · rw [List.length_map, tones_len, List.length_take]
          exact Nat.lt_of_le_of_lt (Nat.le_trans (Nat.min_le_right _ _) R.le) (by decide)
        · refine ⟨_, by rw [t2, hz], Ex.mut eG ht, ?_⟩
          rw [t1, List.map_append, hz]
          exact upd_same
      refine cut_s (fun σ' G' => G' = G ∧ σ' = [some (.ref a), some (.int dial), some (.int n), some (.ref t), some (optV (s.step dial (lastT dial (ss.take i) (some n)))), some (.ref q)]) (fun D' _ _ _ hnx => ?_) ?_
      · obtain ⟨prev, hprev⟩ : ∃ prev, prev = lastT dial (ss.take i) (some n) := ⟨_, rfl⟩
        rw [← hprev] at hnx ⊢
        have done : ∀ z, z = optV (s.step dial prev) → D'.nx [some (.ref a), some (.int dial), some (.int n), some (.ref t), some z, some (.ref q)] G := fun z hz => hnx _ _ ⟨rfl, by rw [hz]⟩
        cases prev with
        | none =>
          have h0 : (!decide (optV none = V.non)) = false := rfl
          have h1 : optV (s.step dial none) = optV none := by cases s <;> rfl
          walk_at "rd"
          rw [h0]
          refine iteF (iteF ?_)
          walk_at "rd"
          rw [h0]
          refine iteF ?_
          walk_at "rd"
          exact done _ h1.symm
        | some m =>
          have h0 : (!decide (optV (some m) = V.non)) = true := rfl
          have hm : optV (some m) = .int m := rfl
          walk_at "rd"
          rw [h0]
          refine iteT ?_
          cases s with
          | mix lo =>
            have hq' : Rd G q (.tup [.str "mix", .int lo]) := hq
            walk_at "rd"
            rw [n2]
            refine iteF ?_
            walk_at "rd"
            rw [h0]
            refine iteT ?_
            rw [hm]
            walk_at "rd"
            rw [n3]
            refine iteF ?_
            walk_at "rd"
            rw [n3]
            refine iteF ?_
            walk_at "rd"
            refine done _ ?_
            rw [Int.add_zero, Int.sub_zero, far_max]
            rfl
          | dial lo =>
            have hq' : Rd G q (.tup [.str "dial", .int lo]) := hq
            walk_at "rd"
            rw [n1]
            refine iteF ?_
            walk_at "rd"
            rw [h0]
            refine iteT ?_
            rw [hm]
            walk_at "rd"
            refine ite2 (fun _ => ?_) (fun c => absurd (decide_eq_true rfl) c)
            walk_at "rd"
            refine ite2 (fun _ => ?_) (fun c => absurd (decide_eq_true rfl) c)
            walk_at "rd"
            refine done _ ?_
            have e := far_max m (lo + dial)
            show V.int _ = V.int _
            congr 1
            rw [show dial + lo = lo + dial by omega, ← e]
            omega
          | pass lo hi =>
            have hq' : Rd G q (.tup [.str "pass", .int lo, .int hi]) := hq
            walk_at "rd"
            refine ite2 (fun _ => ?_) (fun c => absurd (decide_eq_true rfl) c)
            rw [hm]
            walk_at "rd"
            have st : (Stg.pass lo hi).step dial (some m) = if lo ≤ m ∧ m ≤ hi then some m else none := rfl
            refine ite2 (fun c => ?_) (fun c => ?_)
            · have c' : m < lo := by simpa using c
              refine iteT ?_
              walk_at "rd"
              exact done _ (by rw [st, if_neg (by omega)]; rfl)
            · have c' : ¬ m < lo := by simpa using c
              walk_at "rd"
              refine ite2 (fun c2 => ?_) (fun c2 => ?_)
              · have c2' : hi < m := by simpa using c2
                walk_at "rd"
                exact done _ (by rw [st, if_neg (by omega)]; rfl)
              · have c2' : ¬ hi < m := by simpa using c2
                walk_at "rd"
                exact done _ (by rw [st, if_pos (by omega)]; rfl)
      · rintro σ' G' ⟨rfl, rfl⟩
        exact fin _ rfl
    · rintro σ G ⟨v7, rfl, eG, hG⟩
      have hlen : ys.length = ss.length := by rw [hys.len, List.length_map]
      rw [hlen, List.take_length] at hG ⊢
      have haG := Evl.ex_rd eG ha
      walk_at "rd"
      cases rate with
      | none =>
        have hz : (!decide (v2 = V.non)) = false := by cases hv2; simp
        rw [hz]
        refine iteF ?_
        walk_at "rd"
        exact k t G ht eG (by simpa [allTones] using hG)
      | some r =>
        cases hv2
        have hz : (!decide (V.int r = V.non)) = true := by simp
        have hr0 : 0 < r := by have := (R.rate r rfl).1; omega
        rw [hz]
        refine iteT ?_
        have fin : ∀ z : V, z = optV (sampled r (lastT dial ss (some n))) → rAppend (.ref t) [z] G fun _ H1 => (tRet (tVar 3)) { nx := fun _ H' => Q .non H', rt := Q } [some (.ref a), some (.int dial), some (.int n), some (.ref t), some (optV (lastT dial ss (some n))), v7] H1 := fun z hz => by
          refine go_app hG ?_ ?_
          · rw [List.length_map, tones_len]
            exact Nat.lt_of_le_of_lt R.le (by decide)
          · walk_at "rd"
            refine k t _ ht (Ex.mut eG ht) ?_
            rw [upd_same, hz]
            simp [allTones]
        generalize lastT dial ss (some n) = prev at *
        cases prev with
        | none =>
          have h0 : decide (optV none = V.non) = true := rfl
          walk_at "rd"
          rw [h0]
          refine iteT ?_
          walk_at "rd"
          exact fin .non rfl
        | some m =>
          have h0 : decide (optV (some m) = V.non) = false := rfl
          have hm : optV (some m) = .int m := rfl
          walk_at "rd"
          rw [h0]
          refine iteF ?_
          walk_at "rd"
          rw [hm]
          walk_at "rd"
          refine fin _ ?_
          rw [sampled_min m r hr0]
          rfl
end
end Kx

set_option Elab.async false
set_option linter.all false
set_option maxRecDepth 100000
namespace HX
open PySem PySem.Spec PyProof.Rows L2
open Evl (Ex)
/-! ### data of moderate size -/
structure Fine (w k : Nat) (d : PyData) : Prop where
  sh : d.showable = true
  lv : d.leavesShort 200 = true
  wt : d.weight ≤ w
  dp : d.depth ≤ k
theorem Fine.mono {w w' k k' : Nat} {d : PyData} (h : Fine w k d) (hw : w ≤ w') (hk : k ≤ k') : Fine w' k' d := ⟨h.sh, h.lv, Nat.le_trans h.wt hw, Nat.le_trans h.dp hk⟩
theorem Fine.none : Fine 0 0 .none := ⟨rfl, rfl, Nat.le_refl _, Nat.le_refl _⟩
theorem Fine.bool (b : Bool) : Fine 0 0 (.bool b) := ⟨rfl, rfl, Nat.le_refl _, Nat.le_refl _⟩
theorem Fine.int {i : Int} (h : i.natAbs < 2 ^ 600) : Fine 600 0 (.int i) := by
  have hl : i.natAbs.log2 < 600 := PySem.Flt.log2_lt_of (by decide) h
  have ht : (toString i).length ≤ 200 := Nat.le_trans (int_text_length_le10 (k := 182) (by decide) (Nat.lt_of_lt_of_le h (by decide +kernel))) (by decide)
  refine ⟨by simp [PyData.showable]; omega, ?_, ?_, Nat.le_refl _⟩
  · simp only [PyData.leavesShort, PyData.shown]
    refine decide_eq_true ?_
    show (Str.ofString (toString i)).length ≤ 200
    rw [PySem.ofString_length]
    exact ht
  · simp only [PyData.weight]
    split <;> omega
theorem Fine.str {x : Str} {n : Nat} (h : (PyData.str x).leavesShort 200 = true) (hn : x.cps.size ≤ n) : Fine n 0 (.str x) := ⟨rfl, h, hn, Nat.le_refl _⟩
theorem fine_all {w k : Nat} : ∀ {l : List PyData}, (∀ x ∈ l, Fine w k x) → PyData.showableAll l = true ∧ PyData.leavesShortAll 200 l = true ∧ PyData.weightAll l ≤ l.length * (w + 1) ∧ PyData.depthAll l ≤ k
  | [], _ => ⟨rfl, rfl, by simp [PyData.weightAll], by simp [PyData.depthAll]⟩
  | x :: l, h => by
    obtain ⟨h1, h2, h3, h4⟩ := fine_all fun y hy => h y (List.mem_cons_of_mem _ hy)
    have hx := h x List.mem_cons_self
    refine ⟨by simp [PyData.showableAll, hx.sh, h1], by simp [PyData.leavesShortAll, hx.lv, h2], ?_, ?_⟩
    · simp only [PyData.weightAll, List.length_cons]
      have := hx.wt
      rw [Nat.add_mul]
      omega
    · simp only [PyData.depthAll]
      have := hx.dp
      omega
theorem Fine.list {w k : Nat} {l : List PyData} (h : ∀ x ∈ l, Fine w k x) : Fine (l.length * (w + 1)) (k + 1) (.list l) := by
  obtain ⟨h1, h2, h3, h4⟩ := fine_all h
  exact ⟨by simpa [PyData.showable] using h1, by simpa [PyData.leavesShort] using h2, by simpa [PyData.weight] using h3, by simpa [PyData.depth] using h4⟩
theorem Fine.tuple {w k : Nat} {l : List PyData} (h : ∀ x ∈ l, Fine w k x) : Fine (l.length * (w + 1)) (k + 1) (.tuple l) := by
  obtain ⟨h1, h2, h3, h4⟩ := fine_all h
  exact ⟨by simpa [PyData.showable] using h1, by simpa [PyData.leavesShort] using h2, by simpa [PyData.weight] using h3, by simpa [PyData.depth] using h4⟩
theorem Fine.dict : Fine 0 1 (.dict []) := ⟨rfl, rfl, by simp [PyData.weight, PyData.weightKv], by simp [PyData.depth, PyData.depthKv]⟩
theorem Fine.shw {w k : Nat} {d : PyData} (h : Fine w k d) (hw : w ≤ 80000) (hk : k ≤ 60) : Shw d := by
  refine ⟨h.sh, ?_, Nat.le_trans h.dp hk⟩
  have := PyData.shown_le 200 (by decide) d h.lv
  have e : sizeLine = 16777216 := sizeLine_eq
  have hw' := Nat.le_trans h.wt hw
  omega
theorem two {l : List PyData} {a b : PyData} {R : PyData → Prop} (ha : R a) (hb : R b) : ∀ x ∈ [a, b], R x := by
  intro x hx
  rcases List.mem_cons.mp hx with rfl | hx
  · exact ha
  · rw [List.mem_singleton.mp hx]; exact hb
theorem go_repr {H : Hp} {Q : VK} {x : V} {d : PyData} {w k : Nat} (h : Dq H x d) (hf : Fine w k d) (hw : w ≤ 80000) (hk : k ≤ 60) (q : Q (.str d.shown) H) : rRepr [x] H Q := ⟨x, d, rfl, h, hf.shw hw hk, q⟩
end HX
namespace HX
open PySem PySem.Spec PyProof.Rows L2
def rListQ (K : PySem.W.Frag) : List V → Hp → VK → Prop := fun xs H Q => ∃ p ys, xs = [.ref p] ∧ (SqL K H p ys ∨ SqT K H p ys) ∧ ∀ l, H l = none → Q (.ref l) (upd H l (.lst ys))
theorem call_listQ {X : Cx} : CallR X (.type "list") (rListQ X.K) := call_list_of
theorem go_listL {K : PySem.W.Frag} {H : Hp} {Q : VK} {p : Addr} {ys : List V} (h : Rd H p (.lst ys)) (k : ∀ l, H l = none → Q (.ref l) (upd H l (.lst ys))) : rListQ K [.ref p] H Q := ⟨p, ys, rfl, .inl (.inl h), k⟩
end HX

set_option Elab.async false
set_option linter.all false
set_option maxRecDepth 100000
set_option maxHeartbeats 2000000

namespace Kx
open PySem PySem.Spec PyProof.Rows L2 HX
open Evl (Ex)
local macro_rules | `(tactic| walk_at "side") => `(tactic| first | assumption | ((try dsimp only); first | assumption | decide +kernel | omega | exact ⟨by decide, by decide⟩ | (left; decide) | (left; omega) | (refine Or.inl ⟨?_, ?_⟩ <;> omega) | (refine Or.inr ⟨?_, ?_⟩ <;> omega)))
local macro_rules | `(tactic| walk_at "heap") => `(tactic| first | assumption | exact upd_same | exact Or.inl (by assumption) | exact Or.inl upd_same)
local macro_rules | `(tactic| walk_at "item") => `(tactic| first | exact rfl | exact atI_nat (j := 0) rfl | exact atI_nat (j := 1) rfl | exact atI_nat (j := 2) rfl | assumption)
local macro_rules | `(tactic| walk_at "rd") => `(tactic| repeat (first
  | ((with_reducible refine' go_var ?hv ?_); (case hv => exact rfl))
  | with_reducible refine' go_c ?_
  | with_reducible refine' go_op ?_
  | with_reducible refine' go_seq ?_
  | with_reducible refine' go_asg ?_
  | with_reducible refine' go_name ?_
  | with_reducible refine' go_cons ?_
  | with_reducible refine' go_nil ?_
  | with_reducible refine' go_cb ?_
  | with_reducible refine' go_call ?_
  | with_reducible refine' go_ifS ?_
  | with_reducible refine' go_test ?_
  | with_reducible refine' go_bl ?_
  | with_reducible refine' go_ret ?_
  | with_reducible refine' go_I0 ?_
  | ((with_reducible refine' go_I ?cc ?_); (case cc => walk_at "side"))
  | ((with_reducible refine' go_ixL ?hh ?hk ?_); (case hh => walk_at "heap"); (case hk => walk_at "item"))
  | ((with_reducible refine' go_ixT ?hh ?hk ?_); (case hh => walk_at "heap"); (case hk => walk_at "item"))
  | ((with_reducible refine' go_lenL ?hh ?_); (case hh => walk_at "heap"))
  | ((with_reducible refine' go_lenT ?hh ?_); (case hh => walk_at "heap"))
  | ((with_reducible refine' go_setL ?hh ?hk ?_); (case hh => walk_at "heap"); (case hk => walk_at "item"))
  | with_reducible refine' go_abs ?_
  | with_reducible refine' go_max ?_
  | with_reducible refine' go_min ?_
  | with_reducible refine' go_int ?_
  | with_reducible refine' go_intB ?_
  | (with_reducible refine' go_eq rfl ?_)
  | (with_reducible refine' go_ne rfl ?_)
  | with_reducible refine' go_isN ?_
  | with_reducible refine' go_notN ?_
  | with_reducible refine' go_if ?_
  | with_reducible refine' go_sub ?_
  | with_reducible refine' go_par ?_
  | with_reducible refine' go_sl ?_
  | with_reducible refine' go_part ?_
  | with_reducible refine' go_pint ?_
  | with_reducible refine' go_nopart ?_
  | ((with_reducible refine' go_lenL ?hh ?_); (case hh => walk_at "heap"))
  | ((with_reducible refine' go_lenT ?hh ?_); (case hh => walk_at "heap"))
  | ((with_reducible refine' go_lenS ?hh ?_); (case hh => assumption))
  | with_reducible refine' go_gcons ?_
  | with_reducible refine' go_gnil ?_
  | with_reducible refine' go_kw ?_
  | with_reducible refine' go_par2 ?_
  | with_reducible refine' go_next ?_
  | with_reducible refine' go_drop ?_
  | with_reducible refine' go_and ?_
  | with_reducible refine' go_or ?_
  | with_reducible refine' go_not ?_
  | with_reducible refine' go_B ?_
  | with_reducible refine' go_andV ?_
  | with_reducible refine' go_orV ?_
  | with_reducible refine' go_notV ?_
  | with_reducible refine' go_chain ?_
  | with_reducible refine' go_un ?_
  | with_reducible refine' go_U ?_
  | with_reducible refine' go_bm ?_
  | with_reducible refine' go_tup ?_
  | with_reducible refine' go_lst ?_
  | with_reducible refine' go_forR1 ?_
  | with_reducible refine' go_forR2 ?_
  | with_reducible refine' go_forL ?_
  | with_reducible refine' go_forT ?_
  | with_reducible refine' go_forE ?_
  | with_reducible refine' go_lcR1 ?_
  | with_reducible refine' go_lcL ?_
  | with_reducible refine' go_lcT ?_
  | ((with_reducible refine' go_tyL ?hh ?_); (case hh => walk_at "heap"))
  | ((with_reducible refine' go_new ?hz ?_); (case hz => exact Nat.le_of_ble_eq_true rfl))
  | (with_reducible refine' ⟨_, rfl, ?_⟩)
  ))
--MACEND
def optD : Option Int → PyData
  | none => .none
  | some i => .int i
theorem dq_opt (H : Hp) : ∀ o : Option Int, Dq H (optV o) (optD o)
  | none => .non
  | some i => .int i
theorem dq_opts (H : Hp) : ∀ l : List (Option Int), DqAll H (l.map optV) (l.map optD)
  | [] => .nil
  | o :: l => .cons (dq_opt H o) (dq_opts H l)
/-- bounds of tones -/
def Bd (b : Int) : Option Int → Prop
  | none => True
  | some i => -b ≤ i ∧ i ≤ b
theorem step_bd {c b dial : Int} {s : Stg} (hs : s.ok c) (hc : 0 ≤ c) (hd : -c ≤ dial ∧ dial ≤ c) : ∀ {n : Option Int}, Bd b n → Bd (b + 2 * c) (s.step dial n)
  | none, _ => by cases s <;> trivial
  | some n, h => by
    have h1 : -b ≤ n := h.1
    have h2 : n ≤ b := h.2
    cases s with
    | mix lo =>
      have a1 := hs.1
      have a2 := hs.2
      show -(b + 2 * c) ≤ (if n - lo < 0 then -(n - lo) else n - lo) ∧ (if n - lo < 0 then -(n - lo) else n - lo) ≤ b + 2 * c
      split <;> constructor <;> omega
    | dial lo =>
      have a1 := hs.1
      have a2 := hs.2
      show -(b + 2 * c) ≤ (if n - (dial + lo) < 0 then -(n - (dial + lo)) else n - (dial + lo)) ∧ (if n - (dial + lo) < 0 then -(n - (dial + lo)) else n - (dial + lo)) ≤ b + 2 * c
      split <;> constructor <;> omega
    | pass lo hi =>
      show Bd (b + 2 * c) (if lo ≤ n ∧ n ≤ hi then some n else none)
      split
      · exact ⟨by omega, by omega⟩
      · trivial
theorem tones_bd {c dial : Int} (hc : 0 ≤ c) (hd : -c ≤ dial ∧ dial ≤ c) : ∀ {ss : List Stg} {b : Int} {n : Option Int}, (∀ s ∈ ss, s.ok c) → Bd b n → (∀ o ∈ tones dial ss n, Bd (b + 2 * c * ss.length) o) ∧ Bd (b + 2 * c * ss.length) (lastT dial ss n)
  | [], b, n, _, h => by
    refine ⟨by simp [tones], ?_⟩
    simpa [lastT] using h
  | s :: ss, b, n, hs, h => by
    have h1 := step_bd (hs s List.mem_cons_self) hc hd h
    obtain ⟨h2, h3⟩ := tones_bd hc hd (ss := ss) (fun t ht => hs t (List.mem_cons_of_mem _ ht)) h1
    have e : b + 2 * c + 2 * c * (ss.length : Int) = b + 2 * c * ((s :: ss).length : Int) := by
      rw [List.length_cons]
      push_cast
      rw [Int.mul_add]
      omega
    rw [e] at h2 h3
    have up : ∀ o, Bd (b + 2 * c) o → Bd (b + 2 * c * ((s :: ss).length : Int)) o := fun o ho => by
      cases o with
      | none => trivial
      | some i =>
        have q1 : -(b + 2 * c) ≤ i := ho.1
        have q2 : i ≤ b + 2 * c := ho.2
        have q3 : 2 * c ≤ 2 * c * ((s :: ss).length : Int) := by
          have : 0 ≤ 2 * c * (ss.length : Int) := Int.mul_nonneg (by omega) (by omega)
          rw [List.length_cons]
          push_cast
          rw [Int.mul_add]
          omega
        exact ⟨by omega, by omega⟩
    refine ⟨fun o ho => ?_, h3⟩
    rcases List.mem_cons.mp ho with rfl | ho
    · exact up _ h1
    · exact h2 o ho
theorem fine_opt {o : Option Int} (h : Bd (2 ^ 500) o) : Fine 600 0 (optD o) := by
  cases o with
  | none => exact Fine.none.mono (by decide) (Nat.le_refl _)
  | some i => exact .int (by have h1 : -(2 ^ 500) ≤ i := h.1; have h2 : i ≤ 2 ^ 500 := h.2; omega)
theorem fine_stg {b : Int} {s : Stg} (h : s.ok b) (hb : b ≤ 2 ^ 500) : Fine 1900 1 s.d := by
  have m1 : Fine 600 0 (.str "mix") := .str (by decide +kernel) (by decide +kernel)
  have m2 : Fine 600 0 (.str "dial") := .str (by decide +kernel) (by decide +kernel)
  have m3 : Fine 600 0 (.str "pass") := .str (by decide +kernel) (by decide +kernel)
  cases s with
  | mix lo =>
    have h1 := h.1
    have h2 := h.2
    refine (Fine.tuple (w := 600) (k := 0) (l := [.str "mix", .int lo]) fun x hx => ?_).mono (Nat.le_of_ble_eq_true rfl) (by decide)
    rcases List.mem_cons.mp hx with rfl | hx
    · exact m1
    · rw [List.mem_singleton.mp hx]; exact .int (by omega)
  | dial lo =>
    have h1 := h.1
    have h2 := h.2
    refine (Fine.tuple (w := 600) (k := 0) (l := [.str "dial", .int lo]) fun x hx => ?_).mono (Nat.le_of_ble_eq_true rfl) (by decide)
    rcases List.mem_cons.mp hx with rfl | hx
    · exact m2
    · rw [List.mem_singleton.mp hx]; exact .int (by omega)
  | pass lo hi =>
    have h1 := h.1
    have h2 := h.2.1
    have h3 := h.2.2
    refine (Fine.tuple (w := 600) (k := 0) (l := [.str "pass", .int lo, .int hi]) fun x hx => ?_).mono (Nat.le_of_ble_eq_true rfl) (by decide)
    rcases List.mem_cons.mp hx with rfl | hx
    · exact m3
    rcases List.mem_cons.mp hx with rfl | hx
    · exact .int (by omega)
    · rw [List.mem_singleton.mp hx]; exact .int (by omega)
theorem fine_rad {b : Int} {ss : List Stg} {rate : Option Int} (R : Rad b ss rate) (hb : b ≤ 2 ^ 500) : Fine 40000 3 (radD ss rate) := by
  have hl := R.le
  have h1 : Fine 15208 2 (.list (ss.map Stg.d)) := by
    refine (Fine.list (w := 1900) (k := 1) (l := ss.map Stg.d) fun x hx => ?_).mono (by rw [List.length_map]; omega) (Nat.le_refl _)
    obtain ⟨s, hs, rfl⟩ := List.mem_map.mp hx
    exact fine_stg (R.ok s hs) hb
  have h2 : Fine 15208 2 (rateD rate) := by
    cases rate with
    | none => exact Fine.none.mono (by decide) (by decide)
    | some r =>
      obtain ⟨q1, q2⟩ := R.rate r rfl
      exact (Fine.int (by omega)).mono (by decide) (by decide)
  refine (Fine.tuple (w := 15208) (k := 2) (l := [.list (ss.map Stg.d), rateD rate]) fun x hx => ?_).mono (Nat.le_of_ble_eq_true rfl) (Nat.le_refl _)
  rcases List.mem_cons.mp hx with rfl | hx
  · exact h1
  · rw [List.mem_singleton.mp hx]; exact h2
theorem fine_opts {l : List (Option Int)} (h : ∀ o ∈ l, Bd (2 ^ 500) o) (hl : l.length ≤ 9) : Fine 5409 1 (.list (l.map optD)) := by
  refine (Fine.list (w := 600) (k := 0) (l := l.map optD) fun x hx => ?_).mono (by rw [List.length_map]; omega) (Nat.le_refl _)
  obtain ⟨o, ho, rfl⟩ := List.mem_map.mp hx
  exact fine_opt (h o ho)
end Kx

set_option Elab.async false
set_option linter.all false
set_option maxRecDepth 100000
set_option maxHeartbeats 2000000

namespace Kx
open PySem PySem.Spec PyProof.Rows L2 HX
open Evl (Ex)
local macro_rules | `(tactic| walk_at "side") => `(tactic| first | assumption | ((try dsimp only); first | assumption | decide +kernel | omega | exact ⟨by decide, by decide⟩ | (left; decide) | (left; omega) | (refine Or.inl ⟨?_, ?_⟩ <;> omega) | (refine Or.inr ⟨?_, ?_⟩ <;> omega)))
local macro_rules | `(tactic| walk_at "heap") => `(tactic| first | assumption | exact upd_same | exact Or.inl (by assumption) | exact Or.inl upd_same)
local macro_rules | `(tactic| walk_at "item") => `(tactic| first | exact rfl | exact atI_nat (j := 0) rfl | exact atI_nat (j := 1) rfl | exact atI_nat (j := 2) rfl | assumption)
local macro_rules | `(tactic| walk_at "rd") => `(tactic| repeat (first
  | ((with_reducible refine' go_var ?hv ?_); (case hv => exact rfl))
  | with_reducible refine' go_c ?_
  | with_reducible refine' go_op ?_
  | with_reducible refine' go_seq ?_
  | with_reducible refine' go_asg ?_
  | with_reducible refine' go_name ?_
  | with_reducible refine' go_cons ?_
  | with_reducible refine' go_nil ?_
  | with_reducible refine' go_cb ?_
  | with_reducible refine' go_call ?_
  | with_reducible refine' go_ifS ?_
  | with_reducible refine' go_test ?_
  | with_reducible refine' go_bl ?_
  | with_reducible refine' go_ret ?_
  | with_reducible refine' go_I0 ?_
  | ((with_reducible refine' go_I ?cc ?_); (case cc => walk_at "side"))
  | ((with_reducible refine' go_ixL ?hh ?hk ?_); (case hh => walk_at "heap"); (case hk => walk_at "item"))
  | ((with_reducible refine' go_ixT ?hh ?hk ?_); (case hh => walk_at "heap"); (case hk => walk_at "item"))
  | ((with_reducible refine' go_lenL ?hh ?_); (case hh => walk_at "heap"))
  | ((with_reducible refine' go_lenT ?hh ?_); (case hh => walk_at "heap"))
  | ((with_reducible refine' go_setL ?hh ?hk ?_); (case hh => walk_at "heap"); (case hk => walk_at "item"))
  | with_reducible refine' go_abs ?_
  | with_reducible refine' go_max ?_
  | with_reducible refine' go_min ?_
  | with_reducible refine' go_int ?_
  | with_reducible refine' go_intB ?_
  | (with_reducible refine' go_eq rfl ?_)
  | (with_reducible refine' go_ne rfl ?_)
  | with_reducible refine' go_isN ?_
  | with_reducible refine' go_notN ?_
  | with_reducible refine' go_if ?_
  | with_reducible refine' go_sub ?_
  | with_reducible refine' go_par ?_
  | with_reducible refine' go_sl ?_
  | with_reducible refine' go_part ?_
  | with_reducible refine' go_pint ?_
  | with_reducible refine' go_nopart ?_
  | ((with_reducible refine' go_lenL ?hh ?_); (case hh => walk_at "heap"))
  | ((with_reducible refine' go_lenT ?hh ?_); (case hh => walk_at "heap"))
  | ((with_reducible refine' go_lenS ?hh ?_); (case hh => assumption))
  | with_reducible refine' go_gcons ?_
  | with_reducible refine' go_gnil ?_
  | with_reducible refine' go_kw ?_
  | with_reducible refine' go_par2 ?_
  | with_reducible refine' go_next ?_
  | with_reducible refine' go_drop ?_
  | with_reducible refine' go_and ?_
  | with_reducible refine' go_or ?_
  | with_reducible refine' go_not ?_
  | with_reducible refine' go_B ?_
  | with_reducible refine' go_andV ?_
  | with_reducible refine' go_orV ?_
  | with_reducible refine' go_notV ?_
  | with_reducible refine' go_chain ?_
  | with_reducible refine' go_un ?_
  | with_reducible refine' go_U ?_
  | with_reducible refine' go_bm ?_
  | with_reducible refine' go_tup ?_
  | with_reducible refine' go_lst ?_
  | ((with_reducible refine' go_listL ?hh ?_); (case hh => walk_at "heap"))
  | with_reducible refine' go_forR1 ?_
  | with_reducible refine' go_forR2 ?_
  | with_reducible refine' go_forL ?_
  | with_reducible refine' go_forT ?_
  | with_reducible refine' go_forE ?_
  | with_reducible refine' go_lcR1 ?_
  | with_reducible refine' go_lcL ?_
  | with_reducible refine' go_lcT ?_
  | ((with_reducible refine' go_tyL ?hh ?_); (case hh => walk_at "heap"))
  | ((with_reducible refine' go_new ?hz ?_); (case hz => exact Nat.le_of_ble_eq_true rfl))
  | (with_reducible refine' ⟨_, rfl, ?_⟩)
  ))
--MACEND
section
variable {P : Program} {w : World} {K : PySem.W.Frag} {mg : Str → Option Value} {base : Heap}
/-- the bounds that the law keeps to -/
def spRight : Sp := fun vs H Q _ => ∃ (x : V) (dial n : Int) (ss : List Stg) (rate : Option Int), vs = [x, .int dial, .int n] ∧ Dq H x (radD ss rate) ∧ Rad (2 ^ 300) ss rate ∧ 0 ≤ n ∧ n ≤ 2 ^ 300 ∧ -(2 ^ 300) ≤ dial ∧ dial ≤ 2 ^ 300 ∧ ∀ H', Ex H H' → Q (.bl true) H'
def rev3 {α : Type} : List α → List α
  | [a, b, c] => [c, b, a]
  | l => l
theorem all_bd {ss : List Stg} {rate : Option Int} {dial n : Int} (R : Rad (2 ^ 300) ss rate) (hn0 : 0 ≤ n) (hn1 : n ≤ 2 ^ 300) (hd0 : -(2 ^ 300) ≤ dial) (hd1 : dial ≤ 2 ^ 300) :
    (∀ o ∈ allTones dial ss rate n, Bd (2 ^ 500) o) ∧ (allTones dial ss rate n).length ≤ 9 ∧ Bd (2 ^ 500) (lastAll dial ss rate n) := by
  have hl := R.le
  obtain ⟨h1, h2⟩ := tones_bd (c := 2 ^ 300) (b := 2 ^ 300) (n := some n) (ss := ss) (by decide) ⟨hd0, hd1⟩ (fun s hs => R.ok s hs) ⟨by omega, hn1⟩
  have up : ∀ o, Bd (2 ^ 300 + 2 * 2 ^ 300 * (ss.length : Int)) o → Bd (2 ^ 500) o := fun o ho => by
    cases o with
    | none => trivial
    | some i =>
      have q1 : -(2 ^ 300 + 2 * 2 ^ 300 * (ss.length : Int)) ≤ i := ho.1
      have q2 : i ≤ 2 ^ 300 + 2 * 2 ^ 300 * (ss.length : Int) := ho.2
      exact ⟨by omega, by omega⟩
  have hlast : Bd (2 ^ 500) (lastAll dial ss rate n) := by
    cases rate with
    | none => exact up _ h2
    | some r =>
      obtain ⟨r2, r3⟩ := R.rate r rfl
      show Bd (2 ^ 500) (sampled r (lastT dial ss (some n)))
      cases lastT dial ss (some n) with
      | none => trivial
      | some m =>
        have a0 := Int.emod_nonneg m (show r ≠ 0 by omega)
        have a1 := Int.emod_lt_of_pos m (show 0 < r by omega)
        show -(2 ^ 500) ≤ (if r - m % r < m % r then r - m % r else m % r) ∧ (if r - m % r < m % r then r - m % r else m % r) ≤ 2 ^ 500
        split <;> constructor <;> omega
  refine ⟨fun o ho => ?_, ?_, hlast⟩
  · unfold allTones at ho
    rcases List.mem_append.mp ho with ho | ho
    · exact up _ (h1 o ho)
    · cases rate with
      | none => simp at ho
      | some r => rw [List.mem_singleton.mp ho]; exact hlast
  · unfold allTones
    rw [List.length_append, tones_len]
    cases rate with
    | none => simp; omega
    | some r => simp; omega
theorem ixN_last {n : Nat} (h : 0 < n) : ixN n (-1) = some (n - 1) := by
  unfold ixN
  rw [if_neg (by decide), if_pos (by omega)]
  congr 1
  omega
/-- the last stage is another one, no dial -/
theorem Rad.other {b : Int} {ss0 : List Stg} {s t : Stg} {rate : Option Int} (R : Rad b (ss0 ++ [s]) rate) (ht : t.ok b) (hd : t.isDial = false) : Rad b (ss0 ++ [t]) rate := by
  refine ⟨by simp, by simpa using R.le, fun x hx => ?_, ?_, R.rate⟩
  · rcases List.mem_append.mp hx with hx | hx
    · exact R.ok x (List.mem_append_left _ hx)
    · rw [List.mem_singleton.mp hx]; exact ht
  · have := R.one
    rw [dials_app] at this ⊢
    rw [hd]
    simp
    omega
/-- two answers and what is due -/
theorem dq_two {H : Hp} {q p : Addr} {l : List (Option Int)} {o : Option Int} (hq : H q = some (.lst [.ref p, optV o])) (hp : H p = some (.lst (l.map optV))) : Dq H (.ref q) (.list [.list (l.map optD), optD o]) :=
  .lst (.inl hq) (.cons (.lst (.inl hp) (dq_opts H l)) (.cons (dq_opt H o) .nil))
theorem fine_two {l : List (Option Int)} {o : Option Int} (h1 : ∀ o ∈ l, Bd (2 ^ 500) o) (h2 : l.length ≤ 9) (h3 : Bd (2 ^ 500) o) : Fine 10820 2 (.list [.list (l.map optD), optD o]) := by
  refine (Fine.list (w := 5409) (k := 1) fun x hx => ?_).mono (Nat.le_of_ble_eq_true rfl) (Nat.le_refl _)
  rcases List.mem_cons.mp hx with rfl | hx
  · exact fine_opts h1 h2
  · rw [List.mem_singleton.mp hx]
    exact (fine_opt h3).mono (by decide) (by decide)
theorem fine_pair {o : Option Int} (h3 : Bd (2 ^ 500) o) : Fine 1202 1 (.list [optD o, optD o]) := by
  refine (Fine.list (w := 600) (k := 0) fun x hx => ?_).mono (Nat.le_of_ble_eq_true rfl) (Nat.le_refl _)
  rcases List.mem_cons.mp hx with rfl | hx
  · exact fine_opt h3
  · rw [List.mem_singleton.mp hx]
    exact fine_opt h3
/-- the law's own copy of a receiver, whose last stage it changes -/
structure LapR (l1 b c : Addr) (v2 : V) (cs ys0 : List V) (ss0 : List Stg) (rate : Option Int) (dial n : Int) (due : Addr) (s : Stg) (G : Hp) : Prop where
  R : Rad (2 ^ 300) (ss0 ++ [s]) rate
  hdue : G due = some (.lst ((allTones dial (ss0 ++ [s]) rate n).map optV))
  ne : due ≠ l1
  l : ∃ w, G l1 = some (.lst (ys0 ++ [w])) ∧ Dq (hid [l1] G) w s.d
  ys : DqAll (hid [l1] G) ys0 (ss0.map Stg.d)
  hb : G b = some (.tup [.ref l1, v2])
  bne : b ≠ l1
  r : Dq (hid [l1] G) v2 (rateD rate)
  hc : Rd (hid [l1] G) c (.tup cs)
  hcs : DqAll (hid [l1] G) cs ([Stg.mix (n / 2 + 1), .pass 0 n, .mix 3].map Stg.d)
theorem LapR.ex {l1 b c : Addr} {v2 : V} {cs ys0 : List V} {ss0 : List Stg} {rate : Option Int} {dial n : Int} {due : Addr} {s : Stg} {G G' : Hp} (h : LapR l1 b c v2 cs ys0 ss0 rate dial n due s G) (e : Ex G G') : LapR l1 b c v2 cs ys0 ss0 rate dial n due s G' := by
  have j : Jx [l1] G G' := Jx.of e
  obtain ⟨w, q1, q2⟩ := h.l
  exact ⟨h.R, e _ _ h.hdue, h.ne, ⟨w, e _ _ q1, j.dq q2⟩, j.dqa h.ys, e _ _ h.hb, h.bne, j.dq h.r, Evl.ex_rd j h.hc, j.dqa h.hcs⟩
theorem LapR.rad {l1 b c : Addr} {v2 : V} {cs ys0 : List V} {ss0 : List Stg} {rate : Option Int} {dial n : Int} {due : Addr} {s : Stg} {G : Hp} (h : LapR l1 b c v2 cs ys0 ss0 rate dial n due s G) : Dq G (.ref b) (radD (ss0 ++ [s]) rate) := by
  obtain ⟨w, q1, q2⟩ := h.l
  refine .tup (.inl h.hb) (.cons (.lst (.inl q1) ?_) (.cons (h.r.ex hid_ex) .nil))
  rw [List.map_append]
  exact (h.ys.ex hid_ex).app (.one (q2.ex hid_ex))
theorem ex_hid_new {H : Hp} {l : Addr} {o : HO} (h : H l = none) : Ex H (hid [l] (upd H l o)) := fun b u e => by
  have hb : b ≠ l := fun z => by rw [z, h] at e; cases e
  rw [hid_ne (by simp [hb]), upd_ne hb]
  exact e
theorem LapR.set {l1 b c : Addr} {v2 x : V} {cs ys0 : List V} {ss0 : List Stg} {rate : Option Int} {dial n : Int} {due : Addr} {s t : Stg} {G : Hp} (h : LapR l1 b c v2 cs ys0 ss0 rate dial n due s G) (R : Rad (2 ^ 300) (ss0 ++ [t]) rate) (hx : Dq (hid [l1] G) x t.d) :
    Dq (upd G l1 (.lst (ys0 ++ [x]))) (.ref b) (radD (ss0 ++ [t]) rate) ∧
      ∀ p G', upd G l1 (.lst (ys0 ++ [x])) p = none → Ex (upd G l1 (.lst (ys0 ++ [x]))) G' → G' p = some (.lst ((allTones dial (ss0 ++ [t]) rate n).map optV)) → LapR l1 b c v2 cs ys0 ss0 rate dial n p t G' := by
  have j : Jx [l1] G (upd G l1 (.lst (ys0 ++ [x]))) := Jx.upd (by simp)
  have hb : upd G l1 (.lst (ys0 ++ [x])) b = some (.tup [.ref l1, v2]) := by rw [upd_ne h.bne]; exact h.hb
  refine ⟨.tup (.inl hb) (.cons (.lst (.inl upd_same) ?_) (.cons ((j.dq h.r).ex hid_ex) .nil)), fun p G' hp e hG => ?_⟩
  · rw [List.map_append]
    exact ((j.dqa h.ys).ex hid_ex).app (.one ((j.dq hx).ex hid_ex))
  · have j2 := j.tr (Jx.of e)
    exact ⟨R, hG, fresh_ne upd_same hp, ⟨x, e _ _ upd_same, j2.dq hx⟩, j2.dqa h.ys, e _ _ hb, h.bne, j2.dq h.r, Evl.ex_rd j2 h.hc, j2.dqa h.hcs⟩
abbrev s__law_right : Stmt := top 30
theorem sc__law_right : FnScope ["radio", "tuned", "wave", "kept", "due", "lap", "told", "stages", "later", "stage"] ["radio", "tuned", "wave"] (defScope s__law_right) := ⟨rfl, rfl, rfl, by decide +kernel, rfl, by decide +kernel, by decide +kernel⟩
theorem ok_law_right {f : Addr} {fd : FuncData} (F : Fun K "_law_right" "_law_right" s__law_right f fd) (m_repr : mg "repr" = none) (m_range : mg "range" = none) (m_list : mg "list" = none)
    (h__law_parts : Has P w K mg base 1 "_law_parts" spParts) (h_stage_tones : Has P w K mg base 6 "stage_tones" spTones) (h_tone_at : Has P w K mg base 7 "tone_at" spTone)
    (h_stage_tones_kw : HasK P w K mg base 6 "stage_tones" ["signal", "dial", "receiver"] rev3 rev3 spTones) (h_tone_at_kw : HasK P w K mg base 7 "tone_at" ["signal", "dial", "receiver"] rev3 rev3 spTone) :
    FnG P w K mg base CX0 8 f fd ["radio", "tuned", "wave"] spRight := by
  refine okG F sc__law_right (fun vs H Q E h => ?_) (fun cdv A outer s H vs Q E hgd hr h => ?_)
  · obtain ⟨x, dial, n, ss, rate, rfl, _⟩ := h
    rfl
  · obtain ⟨x, dial, n, ss, rate, rfl, hd, R, hn0, hn1, hd0, hd1, k⟩ := h
    refine ⟨_, PSs.nox ((pss_cons (ps_par (i := 3) (j := 4) (by rfl) sc__law_right.nd rfl rfl (by decide) rfl rfl (pa_cons (pe_callB (call_repr hgd hr.units) rfl m_repr (by decide +kernel) (pa_cons (pv 0) pa_nil)) (pa_cons (pe_hs h__law_parts hr rfl (pa_cons (pv 0) (pa_cons (pv 1) (pa_cons (pv 2) pa_nil)))) pa_nil)) (by rfl))
  (pss_cons (ps_for PassesOwn.never rfl (pi_range1 (by rfl) m_range (pa_cons pe_int pa_nil)) (pg_name (i := 5) sc__law_right.nd rfl (Or.inl rfl))
  (pss_cons (ps_set (i := 6) sc__law_right.nd rfl (Or.inl rfl) (pe_kw h_stage_tones_kw hr rfl (pk_cons (pv 2) (pk_cons (pv 1) (pk_cons (pv 0) pk_nil)))))
  (pss_cons (ps_if (PW.pt (pw_or (pt_cmpR op_ne (pe_callB (call_repr hgd hr.units) rfl m_repr (by decide +kernel) (pa_cons (pv 6) pa_nil)) (pe_callB (call_repr hgd hr.units) rfl m_repr (by decide +kernel) (pa_cons (pv 4) pa_nil)) (nomark _)) (pw_or1 (pt_cmpR op_ne (pe_callB (call_repr hgd hr.units) rfl m_repr (by decide +kernel) (pa_cons (pv 0) pa_nil)) (pv 3) (nomark _)))))
  (pss_one (ps_ret pe_bl))
  pss_nil)
  (pss_one (ps_expr (pe_bm PySem.F.plainAttrs_list PySem.F.slot_list_append PySem.F.type_list_append mt_append (pv 6) (pa_cons pe_int pa_nil)))))))
  (pss_cons (ps_if (pt_cmpR op_ne (pe_callB (call_repr hgd hr.units) rfl m_repr (by decide +kernel) (pa_cons (pe_hs h_stage_tones hr rfl (pa_cons (pv 0) (pa_cons (pv 1) (pa_cons (pv 2) pa_nil)))) pa_nil)) (pe_callB (call_repr hgd hr.units) rfl m_repr (by decide +kernel) (pa_cons (pv 4) pa_nil)) (nomark _))
  (pss_one (ps_ret pe_bl))
  pss_nil)
  (pss_cons (ps_set (i := 6) sc__law_right.nd rfl (Or.inl rfl) (pe_lst (pa_cons (pe_kw h_tone_at_kw hr rfl (pk_cons (pv 2) (pk_cons (pv 1) (pk_cons (pv 0) pk_nil)))) (pa_cons (pe_hs h_tone_at hr rfl (pa_cons (pv 0) (pa_cons (pv 1) (pa_cons (pv 2) pa_nil)))) pa_nil))))
  (pss_cons (ps_if (PW.pt (pw_or (pt_cmpR op_ne (pe_callB (call_repr hgd hr.units) rfl m_repr (by decide +kernel) (pa_cons (pv 6) pa_nil)) (pe_callB (call_repr hgd hr.units) rfl m_repr (by decide +kernel) (pa_cons (pe_lst (pa_cons (pe_ix ix_list (pv 4) (pe_un un_neg pe_int) (fun _ _ => rfl)) (pa_cons (pe_ix ix_list (pv 4) (pe_un un_neg pe_int) (fun _ _ => rfl)) pa_nil))) pa_nil)) (nomark _)) (pw_or1 (pt_cmpR op_ne (pe_callB (call_repr hgd hr.units) rfl m_repr (by decide +kernel) (pa_cons (pv 0) pa_nil)) (pv 3) (nomark _)))))
  (pss_one (ps_ret pe_bl))
  pss_nil)
  (pss_cons (ps_set (i := 7) sc__law_right.nd rfl (Or.inl rfl) (pe_callTy call_listQ rfl m_list boot_list (pa_cons (pe_ix ix_tup (pv 0) pe_int (fun _ _ => rfl)) pa_nil)))
  (pss_cons (ps_set (i := 8) sc__law_right.nd rfl (Or.inl rfl) (pe_tup (pa_cons (pv 7) (pa_cons (pe_ix ix_tup (pv 0) pe_int (fun _ _ => rfl)) pa_nil))))
  (pss_cons (ps_for PassesOwn.never rfl (pi_tup (pe_tup (pa_cons (pe_tup (pa_cons pe_str (pa_cons (pe_op op_add (pe_op op_fdiv (pv 2) pe_int) pe_int) pa_nil))) (pa_cons (pe_tup (pa_cons pe_str (pa_cons pe_int (pa_cons (pv 2) pa_nil)))) (pa_cons (pe_tup (pa_cons pe_str (pa_cons pe_int pa_nil))) pa_nil))))) (pg_name (i := 9) sc__law_right.nd rfl (Or.inl rfl))
  (pss_cons (ps_if (pt_cmpR op_ne (pe_callB (call_repr hgd hr.units) rfl m_repr (by decide +kernel) (pa_cons (pe_lst (pa_cons (pe_hs h_stage_tones hr rfl (pa_cons (pv 8) (pa_cons (pv 1) (pa_cons (pv 2) pa_nil)))) (pa_cons (pe_hs h_tone_at hr rfl (pa_cons (pv 8) (pa_cons (pv 1) (pa_cons (pv 2) pa_nil)))) pa_nil))) pa_nil)) (pe_callB (call_repr hgd hr.units) rfl m_repr (by decide +kernel) (pa_cons (pe_lst (pa_cons (pv 4) (pa_cons (pe_ix ix_list (pv 4) (pe_un un_neg pe_int) (fun _ _ => rfl)) pa_nil))) pa_nil)) (nomark _))
  (pss_one (ps_ret pe_bl))
  pss_nil)
  (pss_cons (ps_asg (pv 9) (pg_sub (pv 7) (pe_un un_neg pe_int) set_list))
  (pss_one (ps_set (i := 4) sc__law_right.nd rfl (Or.inl rfl) (pe_hs h__law_parts hr rfl (pa_cons (pv 8) (pa_cons (pv 1) (pa_cons (pv 2) pa_nil)))))))))
  (pss_one (ps_ret (pe_cmpR op_eq (pe_callB (call_repr hgd hr.units) rfl m_repr (by decide +kernel) (pa_cons (pe_lst (pa_cons (pe_hs h_stage_tones hr rfl (pa_cons (pv 8) (pa_cons (pv 1) (pa_cons (pv 2) pa_nil)))) (pa_cons (pe_hs h_tone_at hr rfl (pa_cons (pv 8) (pa_cons (pv 1) (pa_cons (pv 2) pa_nil)))) pa_nil))) pa_nil)) (pe_callB (call_repr hgd hr.units) rfl m_repr (by decide +kernel) (pa_cons (pe_lst (pa_cons (pv 4) (pa_cons (pe_ix ix_list (pv 4) (pe_un un_neg pe_int) (fun _ _ => rfl)) pa_nil))) pa_nil)) (nomark _))))))))))))), ?_⟩
    have frad := fine_rad R (by decide +kernel)
    obtain ⟨T1, T2, T3⟩ := all_bd R hn0 hn1 hd0 hd1
    obtain ⟨l0, el⟩ := all_last dial ss rate n R.ne
    walk_at "rd"
    refine go_repr hd frad (by decide) (by decide) ?_
    walk_at "rd"
    refine ⟨x, dial, n, _, ss, rate, rfl, hd, R, fun due H1 hdue0 e1 hdue => ?_⟩
    have fdue := fine_opts T1 T2
    have ddue : ∀ {G : Hp}, Ex H1 G → Dq G (.ref due) (.list ((allTones dial ss rate n).map optD)) := fun e => .lst (.inl (e _ _ hdue)) (dq_opts _ _)
    have dlast : ∀ {G : Hp}, Ex H1 G → atI ((allTones dial ss rate n).map optV) (-1) = some (optV (lastAll dial ss rate n)) := fun e => by rw [el]; exact at_last
    walk_at "rd"
    refine ⟨by decide, by decide, ?_⟩
    refine run_forR (fun i σ G => ∃ v5 v6 : Option V, σ = [some x, some (.int dial), some (.int n), some (.str (radD ss rate).shown), some (.ref due), v5, v6, none, none, none] ∧ Ex H1 G) ?_ ?_ ?_
    · exact ⟨_, _, rfl, Ex.refl _⟩
    · rintro i σ G hi ⟨v5, v6, rfl, eG⟩
      walk_at "rd"
      refine ⟨rfl, x, dial, n, _, ss, rate, rfl, hd.ex (e1.trans eG), R, hn0, fun t G1 ht e2 ht1 => ?_⟩
      have eG1 := eG.trans e2
      walk_at "rd"
      refine go_repr (.lst (.inl ht1) (dq_opts _ _)) fdue (by decide) (by decide) ?_
      walk_at "rd"
      refine go_repr (ddue eG1) fdue (by decide) (by decide) ?_
      walk_at "rd"
      refine iteNS rfl ?_
      walk_at "rd"
      refine go_repr (hd.ex (e1.trans eG1)) frad (by decide) (by decide) ?_
      walk_at "rd"
      refine iteNS rfl ?_
      walk_at "rd"
      refine go_app ht1 ?_ ?_
      · rw [List.length_map]
        exact Nat.lt_of_le_of_lt T2 (by decide)
      · exact ⟨_, _, rfl, Ex.mut eG1 (Evl.fresh_back eG ht)⟩
    · rintro σ G ⟨v5, v6, rfl, eG⟩
      walk_at "rd"
      refine ⟨x, dial, n, _, ss, rate, rfl, hd.ex (e1.trans eG), R, hn0, fun t G1 ht e2 ht1 => ?_⟩
      have eG1 := eG.trans e2
      walk_at "rd"
      refine go_repr (.lst (.inl ht1) (dq_opts _ _)) fdue (by decide) (by decide) ?_
      walk_at "rd"
      refine go_repr (ddue eG1) fdue (by decide) (by decide) ?_
      walk_at "rd"
      refine iteNS rfl ?_
      walk_at "rd"
      refine ⟨rfl, x, dial, n, _, ss, rate, rfl, hd.ex (e1.trans eG1), R, hn0, fun G2 e3 => ?_⟩
      have eG2 := eG1.trans e3
      walk_at "rd"
      refine ⟨x, dial, n, _, ss, rate, rfl, hd.ex (e1.trans eG2), R, hn0, fun G3 e4 => ?_⟩
      have eG3 := eG2.trans e4
      walk_at "rd"
      intro q hq
      have eG4 := eG3.trans (Ex.new (o := HO.lst [optV (lastAll dial ss rate n), optV (lastAll dial ss rate n)]) hq)
      have fp := fine_pair T3
      walk_at "rd"
      refine go_repr (.lst (.inl upd_same) (.cons (dq_opt _ _) (.cons (dq_opt _ _) .nil))) fp (by decide) (by decide) ?_
      walk_at "rd"
      refine go_ixL (.inl (eG4 _ _ hdue)) (dlast eG4) ?_
      walk_at "rd"
      refine go_ixL (.inl (eG4 _ _ hdue)) (dlast eG4) ?_
      walk_at "rd"
      intro q2 hq2
      have eG5 := eG4.trans (Ex.new (o := HO.lst [optV (lastAll dial ss rate n), optV (lastAll dial ss rate n)]) hq2)
      walk_at "rd"
      refine go_repr (.lst (.inl upd_same) (.cons (dq_opt _ _) (.cons (dq_opt _ _) .nil))) fp (by decide) (by decide) ?_
      walk_at "rd"
      refine iteNS rfl ?_
      walk_at "rd"
      refine go_repr (hd.ex (e1.trans eG5)) frad (by decide) (by decide) ?_
      walk_at "rd"
      refine iteNS rfl ?_
      -- the caller's list of stages changes between two calls
      obtain ⟨a, xs, rfl, ha, hda⟩ := (hd.ex (e1.trans eG5)).tupleAt
      obtain ⟨v1, v2, d1, d2, rfl, ed, hv1, hv2⟩ := dqa2 hda rfl
      obtain ⟨rfl, rfl⟩ : PyData.list (ss.map Stg.d) = d1 ∧ rateD rate = d2 := by simpa using ed
      obtain ⟨l, ys, rfl, hl, hys⟩ := hv1.listAt
      have hss : ∃ ss0 sl, ss = ss0 ++ [sl] := by
        rcases List.eq_nil_or_concat ss with z | ⟨ss0, sl, z⟩
        · exact absurd z R.ne
        · exact ⟨ss0, sl, by simpa using z⟩
      obtain ⟨ss0, sl, rfl⟩ := hss
      rw [List.map_append] at hys
      rw [List.map_cons, List.map_nil] at hys
      obtain ⟨ys0, w, rfl, hys0, hw⟩ := dqa_snoc hys
      revert eG5 ha hl hys0 hw hv2
      generalize upd (upd G3 q _) q2 _ = G5
      intro eG5 hv2 ha hl hys0 hw
      walk_at "rd"
      intro l1 hl1
      have hl1H : H1 l1 = none := Evl.fresh_back eG5 hl1
      walk_at "rd"
      refine go_ixT (Evl.ex_rd (Ex.new hl1) ha) (atI_nat (j := 1) rfl) ?_
      walk_at "rd"
      intro b hb
      walk_at "rd"
      intro c1 hc1
      walk_at "rd"
      intro c2 hc2
      walk_at "rd"
      intro c3 hc3
      walk_at "rd"
      intro c hc
      -- what stands when the walk over the three stages begins
      have hb1 : b ≠ l1 := (fresh_ne upd_same hb).symm.symm
      have z0 := ex_hid_new (o := HO.lst (ys0 ++ [w])) hl1
      have z1 : Jx [l1] _ _ := Jx.new (o := HO.tup [.ref l1, v2]) hb
      have z2 : Jx [l1] _ _ := Jx.new (o := HO.tup (Stg.mix (n / 2 + 1)).vals) hc1
      have z3 : Jx [l1] _ _ := Jx.new (o := HO.tup (Stg.pass 0 n).vals) hc2
      have z4 : Jx [l1] _ _ := Jx.new (o := HO.tup (Stg.mix 3).vals) hc3
      have z5 : Jx [l1] _ _ := Jx.new (o := HO.tup [.ref c1, .ref c2, .ref c3]) hc
      have y1 := Ex.new (o := HO.tup [.ref l1, v2]) hb
      have y2 := Ex.new (o := HO.tup (Stg.mix (n / 2 + 1)).vals) hc1
      have y3 := Ex.new (o := HO.tup (Stg.pass 0 n).vals) hc2
      have y4 := Ex.new (o := HO.tup (Stg.mix 3).vals) hc3
      have y5 := Ex.new (o := HO.tup [.ref c1, .ref c2, .ref c3]) hc
      have y0 := Ex.new (o := HO.lst (ys0 ++ [w])) hl1
      have yl := (((y1.trans y2).trans y3).trans y4).trans y5
      have zl := (((z1.tr z2).tr z3).tr z4).tr z5
      have nc1 : c1 ≠ l1 := fresh_ne (y1 _ _ upd_same) hc1
      have nc2 : c2 ≠ l1 := fresh_ne (y2 _ _ (y1 _ _ upd_same)) hc2
      have nc3 : c3 ≠ l1 := fresh_ne (y3 _ _ (y2 _ _ (y1 _ _ upd_same))) hc3
      have nc : c ≠ l1 := fresh_ne (y4 _ _ (y3 _ _ (y2 _ _ (y1 _ _ upd_same)))) hc
      have nd : due ≠ l1 := fun z => by
        have := eG5 _ _ hdue
        rw [z, hl1] at this
        cases this
      have L0 : LapR l1 b c v2 [.ref c1, .ref c2, .ref c3] ys0 ss0 rate dial n due sl _ :=
        { R := R, hdue := yl _ _ (y0 _ _ (eG5 _ _ hdue)), ne := nd, l := ⟨w, yl _ _ upd_same, zl.dq (hw.ex z0)⟩, ys := zl.dqa (hys0.ex z0)
          hb := (((y2.trans y3).trans y4).trans y5) _ _ upd_same, bne := hb1, r := zl.dq (hv2.ex z0)
          hc := .inl (by rw [hid_ne (nin1 nc)]; exact upd_same)
          hcs := .cons (dq_stg (((y3.trans y4).trans y5) _ _ upd_same) (nin1 nc1)) (.cons (dq_stg ((y4.trans y5) _ _ upd_same) (nin1 nc2)) (.cons (dq_stg (y5 _ _ upd_same) (nin1 nc3)) .nil)) }
      have eGl : Ex H1 _ := eG5.trans (y0.trans yl)
      revert L0 eGl
      generalize L2.upd _ c _ = Gc
      intro L0 eGl
      walk_at "rd"
      refine ⟨⟨_, .inl (Evl.ex_rd hid_ex L0.hc)⟩, ?_⟩
      refine run_forT [.ref c1, .ref c2, .ref c3] (fun i σ G => ∃ (s' : Stg) (due : Addr) (v5 v9 : Option V), σ = [some (.ref a), some (.int dial), some (.int n), some (.str (radD (ss0 ++ [sl]) rate).shown), some (.ref due), v5, some (.ref q), some (.ref l1), some (.ref b), v9] ∧ LapR l1 b c v2 [.ref c1, .ref c2, .ref c3] ys0 ss0 rate dial n due s' G ∧ Ex H1 G) ?_ ?_ ?_ ?_
      · exact ⟨sl, due, _, _, rfl, L0, eGl⟩
      · rintro i σ G _ ⟨s', due', v5, v9, rfl, L, _⟩
        exact .inl (Evl.ex_rd hid_ex L.hc)
      · rintro i x σ G hx ⟨s', due, v5, v9, rfl, L, eG⟩
        walk_at "rd"
        refine ⟨.ref b, dial, n, _, ss0 ++ [s'], rate, rfl, L.rad, L.R, hn0, fun t G1 ht e2 ht1 => ?_⟩
        have L1 := L.ex e2
        walk_at "rd"
        refine ⟨.ref b, dial, n, _, ss0 ++ [s'], rate, rfl, L1.rad, L1.R, hn0, fun G2 e3 => ?_⟩
        have L2 := L1.ex e3
        obtain ⟨T1, T2, T3⟩ := all_bd L.R hn0 hn1 hd0 hd1
        obtain ⟨l0, el⟩ := all_last dial (ss0 ++ [s']) rate n L.R.ne
        have f2 := fine_two T1 T2 T3
        walk_at "rd"
        intro q1 hq1
        have L3 := L2.ex (Ex.new (o := HO.lst [.ref t, optV (lastAll dial (ss0 ++ [s']) rate n)]) hq1)
        walk_at "rd"
        refine go_repr (dq_two upd_same (Ex.new hq1 _ _ (e3 _ _ ht1))) f2 (by decide) (by decide) ?_
        walk_at "rd"
        refine go_ixL (.inl L3.hdue) (by rw [el]; exact at_last) ?_
        walk_at "rd"
        intro q2 hq2
        have L4 := L3.ex (Ex.new (o := HO.lst [.ref due, optV (lastAll dial (ss0 ++ [s']) rate n)]) hq2)
        walk_at "rd"
        refine go_repr (dq_two upd_same L4.hdue) f2 (by decide) (by decide) ?_
        walk_at "rd"
        refine iteNS rfl ?_
        walk_at "rd"
        have e4 := ((e2.trans e3).trans (Ex.new (o := HO.lst [.ref t, optV (lastAll dial (ss0 ++ [s']) rate n)]) hq1)).trans (Ex.new (o := HO.lst [.ref due, optV (lastAll dial (ss0 ++ [s']) rate n)]) hq2)
        have eG4 := eG.trans e4
        obtain ⟨w', u1, u2⟩ := L4.l
        obtain ⟨st, hst, hdst⟩ := dqa_get L4.hcs hx
        have hok : st.ok (2 ^ 300) ∧ st.isDial = false := by
          have : st ∈ [Stg.mix (n / 2 + 1), .pass 0 n, .mix 3] := List.mem_of_getElem? hst
          simp only [List.mem_cons, List.not_mem_nil, or_false] at this
          rcases this with rfl | rfl | rfl
          · exact ⟨⟨by omega, by omega⟩, rfl⟩
          · exact ⟨⟨by omega, by omega, by omega⟩, rfl⟩
          · exact ⟨⟨by omega, by omega⟩, rfl⟩
        have R' := L4.R.other hok.1 hok.2
        refine go_setL u1 (ixN_last (by simp)) ?_
        have es : (ys0 ++ [w']).set ((ys0 ++ [w']).length - 1) x = ys0 ++ [x] := by simp
        rw [es]
        obtain ⟨r1, r2⟩ := L4.set R' hdst
        walk_at "rd"
        refine ⟨.ref b, dial, n, _, ss0 ++ [st], rate, rfl, r1, R', fun p G5' hp e5 hp5 => ?_⟩
        walk_at "rd"
        exact ⟨st, p, _, _, rfl, r2 p _ hp e5 hp5, (Ex.mut eG4 hl1H).trans e5⟩
      · rintro σ G ⟨s', due, v5, v9, rfl, L, eG⟩
        walk_at "rd"
        refine ⟨.ref b, dial, n, _, ss0 ++ [s'], rate, rfl, L.rad, L.R, hn0, fun t G1 ht e2 ht1 => ?_⟩
        have L1 := L.ex e2
        walk_at "rd"
        refine ⟨.ref b, dial, n, _, ss0 ++ [s'], rate, rfl, L1.rad, L1.R, hn0, fun G2 e3 => ?_⟩
        have L2 := L1.ex e3
        obtain ⟨T1, T2, T3⟩ := all_bd L.R hn0 hn1 hd0 hd1
        obtain ⟨l0, el⟩ := all_last dial (ss0 ++ [s']) rate n L.R.ne
        have f2 := fine_two T1 T2 T3
        walk_at "rd"
        intro q1 hq1
        have L3 := L2.ex (Ex.new (o := HO.lst [.ref t, optV (lastAll dial (ss0 ++ [s']) rate n)]) hq1)
        walk_at "rd"
        refine go_repr (dq_two upd_same (Ex.new hq1 _ _ (e3 _ _ ht1))) f2 (by decide) (by decide) ?_
        walk_at "rd"
        refine go_ixL (.inl L3.hdue) (by rw [el]; exact at_last) ?_
        walk_at "rd"
        intro q2 hq2
        have L4 := L3.ex (Ex.new (o := HO.lst [.ref due, optV (lastAll dial (ss0 ++ [s']) rate n)]) hq2)
        walk_at "rd"
        refine go_repr (dq_two upd_same L4.hdue) f2 (by decide) (by decide) ?_
        walk_at "rd"
        show Q _ _
        rw [decide_eq_true (Eq.refl _)]
        refine k _ (e1.trans ?_)
        exact eG.trans (((e2.trans e3).trans (Ex.new (o := HO.lst [.ref t, optV (lastAll dial (ss0 ++ [s']) rate n)]) hq1)).trans (Ex.new (o := HO.lst [.ref due, optV (lastAll dial (ss0 ++ [s']) rate n)]) hq2))
end
end Kx

set_option Elab.async false
set_option linter.all false
set_option maxRecDepth 100000
set_option maxHeartbeats 2000000

namespace Kx
open PySem PySem.Spec PyProof.Rows L2 HX
open Evl (Ex)
local macro_rules | `(tactic| walk_at "side") => `(tactic| first | assumption | ((try dsimp only); first | assumption | decide +kernel | omega | exact ⟨by decide, by decide⟩ | (left; decide) | (left; omega) | (refine Or.inl ⟨?_, ?_⟩ <;> omega) | (refine Or.inr ⟨?_, ?_⟩ <;> omega)))
local macro_rules | `(tactic| walk_at "heap") => `(tactic| first | assumption | exact upd_same | exact Or.inl (by assumption) | exact Or.inl upd_same)
local macro_rules | `(tactic| walk_at "item") => `(tactic| first | exact rfl | exact atI_nat (j := 0) rfl | exact atI_nat (j := 1) rfl | exact atI_nat (j := 2) rfl | assumption)
local macro_rules | `(tactic| walk_at "rd") => `(tactic| repeat (first
  | ((with_reducible refine' go_var ?hv ?_); (case hv => exact rfl))
  | with_reducible refine' go_c ?_
  | with_reducible refine' go_op ?_
  | with_reducible refine' go_seq ?_
  | with_reducible refine' go_asg ?_
  | with_reducible refine' go_name ?_
  | with_reducible refine' go_cons ?_
  | with_reducible refine' go_nil ?_
  | with_reducible refine' go_cb ?_
  | with_reducible refine' go_call ?_
  | with_reducible refine' go_ifS ?_
  | with_reducible refine' go_test ?_
  | with_reducible refine' go_bl ?_
  | with_reducible refine' go_ret ?_
  | with_reducible refine' go_I0 ?_
  | ((with_reducible refine' go_I ?cc ?_); (case cc => walk_at "side"))
  | ((with_reducible refine' go_ixL ?hh ?hk ?_); (case hh => walk_at "heap"); (case hk => walk_at "item"))
  | ((with_reducible refine' go_ixT ?hh ?hk ?_); (case hh => walk_at "heap"); (case hk => walk_at "item"))
  | ((with_reducible refine' go_lenL ?hh ?_); (case hh => walk_at "heap"))
  | ((with_reducible refine' go_lenT ?hh ?_); (case hh => walk_at "heap"))
  | ((with_reducible refine' go_setL ?hh ?hk ?_); (case hh => walk_at "heap"); (case hk => walk_at "item"))
  | with_reducible refine' go_abs ?_
  | with_reducible refine' go_max ?_
  | with_reducible refine' go_min ?_
  | with_reducible refine' go_int ?_
  | with_reducible refine' go_intB ?_
  | (with_reducible refine' go_eq rfl ?_)
  | (with_reducible refine' go_ne rfl ?_)
  | with_reducible refine' go_isN ?_
  | with_reducible refine' go_notN ?_
  | with_reducible refine' go_if ?_
  | with_reducible refine' go_sub ?_
  | with_reducible refine' go_par ?_
  | with_reducible refine' go_sl ?_
  | with_reducible refine' go_part ?_
  | with_reducible refine' go_pint ?_
  | with_reducible refine' go_nopart ?_
  | ((with_reducible refine' go_lenL ?hh ?_); (case hh => walk_at "heap"))
  | ((with_reducible refine' go_lenT ?hh ?_); (case hh => walk_at "heap"))
  | ((with_reducible refine' go_lenS ?hh ?_); (case hh => assumption))
  | with_reducible refine' go_gcons ?_
  | with_reducible refine' go_gnil ?_
  | with_reducible refine' go_kw ?_
  | with_reducible refine' go_par2 ?_
  | with_reducible refine' go_next ?_
  | with_reducible refine' go_drop ?_
  | with_reducible refine' go_and ?_
  | with_reducible refine' go_or ?_
  | with_reducible refine' go_not ?_
  | with_reducible refine' go_B ?_
  | with_reducible refine' go_andV ?_
  | with_reducible refine' go_orV ?_
  | with_reducible refine' go_notV ?_
  | with_reducible refine' go_chain ?_
  | with_reducible refine' go_un ?_
  | with_reducible refine' go_U ?_
  | with_reducible refine' go_bm ?_
  | with_reducible refine' go_tup ?_
  | with_reducible refine' go_lst ?_
  | ((with_reducible refine' go_listL ?hh ?_); (case hh => walk_at "heap"))
  | with_reducible refine' go_forR1 ?_
  | with_reducible refine' go_forR2 ?_
  | with_reducible refine' go_forL ?_
  | with_reducible refine' go_forT ?_
  | with_reducible refine' go_forE ?_
  | with_reducible refine' go_lcR1 ?_
  | with_reducible refine' go_lcL ?_
  | with_reducible refine' go_lcT ?_
  | ((with_reducible refine' go_tyL ?hh ?_); (case hh => walk_at "heap"))
  | ((with_reducible refine' go_new ?hz ?_); (case hz => exact Nat.le_of_ble_eq_true rfl))
  | (with_reducible refine' ⟨_, rfl, ?_⟩)
  ))
--MACEND
section
variable {P : Program} {w : World} {K : PySem.W.Frag} {mg : Str → Option Value} {base : Heap}
/-- mixers that double -/
def zig (a : Int) : Nat → List Stg
  | 0 => []
  | c + 1 => .mix (a * 2 ^ c) :: zig a c
theorem zig_len (a : Int) : ∀ c, (zig a c).length = c
  | 0 => rfl
  | c + 1 => by simp [zig, zig_len a c]
def spZig : Sp := fun vs H Q _ => ∃ (a : Int) (c : Nat), vs = [.int a, .int c] ∧ c ≤ 8 ∧ 0 ≤ a ∧ a ≤ 2 ^ 110 ∧ ∀ p H', Ex H H' → Dq H' (.ref p) (.list ((zig a c).map Stg.d)) → Q (.ref p) H'
abbrev s__law_zigzag : Stmt := top 31
theorem sc__law_zigzag : FnScope ["wide", "count", "stages", "size", "lap"] ["wide", "count"] (defScope s__law_zigzag) := ⟨rfl, rfl, rfl, by decide +kernel, rfl, by decide +kernel, by decide +kernel⟩
theorem ok_law_zigzag {f : Addr} {fd : FuncData} (F : Fun K "_law_zigzag" "_law_zigzag" s__law_zigzag f fd) (m_range : mg "range" = none) : FnOk P w K mg base CX0 1 f fd ["wide", "count"] spZig := by
  refine F.ok sc__law_zigzag (fun vs H Q E h => ?_) (fun cdv A outer s H vs Q E hr h => ?_)
  · obtain ⟨a, c, rfl, _⟩ := h
    rfl
  · obtain ⟨a, c, rfl, hc, ha0, ha1, k⟩ := h
    refine ⟨_, PSs.nox ((pss_cons (ps_par (i := 2) (j := 3) (by rfl) sc__law_zigzag.nd rfl rfl (by decide) rfl rfl (pa_cons (pe_lst pa_nil) (pa_cons (pv 0) pa_nil)) (by rfl))
  (pss_cons (ps_for PassesOwn.never rfl (pi_range1 (by rfl) m_range (pa_cons (pv 1) pa_nil)) (pg_name (i := 4) sc__law_zigzag.nd rfl (Or.inl rfl))
  (pss_one (ps_par (i := 2) (j := 3) (by rfl) sc__law_zigzag.nd rfl rfl (by decide) rfl rfl (pa_cons (pe_op op_cat (pe_lst (pa_cons (pe_tup (pa_cons pe_str (pa_cons (pv 3) pa_nil))) pa_nil)) (pv 2)) (pa_cons (pe_op op_mul pe_int (pv 3)) pa_nil)) (by rfl))))
  (pss_one (ps_ret (pv 2)))))), ?_⟩
    walk_at "rd"
    intro p hp
    walk_at "rd"
    refine ⟨by omega, by omega, ?_⟩
    refine run_forR (fun i σ G => ∃ (p : Addr) (ys : List V) (v : Option V), σ = [some (.int a), some (.int c), some (.ref p), some (.int (a * 2 ^ i)), v] ∧ G p = some (.lst ys) ∧ DqAll G ys ((zig a i).map Stg.d) ∧ Ex H G) ?_ ?_ ?_
    · exact ⟨p, [], _, by rw [Int.pow_zero, Int.mul_one]; rfl, upd_same, .nil, Ex.new hp⟩
    · rintro i σ G hi ⟨p, ys, v, rfl, hG, hy, e⟩
      walk_at "rd"
      intro t ht
      walk_at "rd"
      intro l hl
      walk_at "rd"
      have ly : ys.length = i := by rw [hy.len, List.length_map, zig_len]
      have y1 := Ex.new (o := HO.tup (Stg.mix (a * 2 ^ i)).vals) ht
      have y2 := Ex.new (o := HO.lst [.ref t]) hl
      refine go_cat upd_same (y2 _ _ (y1 _ _ hG)) ?_ fun q hq => ?_
      · rw [ly]
        exact Nat.le_trans (show 1 + i ≤ 100 by omega) (by decide)
      walk_at "rd"
      have y3 := Ex.new (o := HO.lst ([.ref t] ++ ys)) hq
      have e2 : a * 2 ^ (i + 1) = 2 * (a * 2 ^ i) := by rw [Int.pow_succ, ← Int.mul_assoc, Int.mul_comm]
      refine ⟨q, _, _, by rw [e2]; rfl, upd_same, .cons ?_ (hy.ex ((y1.trans y2).trans y3)), ((e.trans y1).trans y2).trans y3⟩
      exact .tup (.inl (y3 _ _ (y2 _ _ upd_same))) (.cons (.str _) (.cons (.int _) .nil))
    · rintro σ G ⟨p, ys, v, rfl, hG, hy, e⟩
      walk_at "rd"
      exact k p G e (.lst (.inl hG) hy)
end
end Kx

set_option Elab.async false
set_option linter.all false
set_option maxRecDepth 100000
set_option maxHeartbeats 2000000

namespace Kx
open PySem PySem.Spec PyProof.Rows L2 HX
open Evl (Ex)
local macro_rules | `(tactic| walk_at "side") => `(tactic| first | assumption | ((try dsimp only); first | assumption | decide +kernel | omega | exact ⟨by decide, by decide⟩ | (left; decide) | (left; omega) | (refine Or.inl ⟨?_, ?_⟩ <;> omega) | (refine Or.inr ⟨?_, ?_⟩ <;> omega)))
local macro_rules | `(tactic| walk_at "heap") => `(tactic| first | assumption | exact upd_same | exact Or.inl (by assumption) | exact Or.inl upd_same)
local macro_rules | `(tactic| walk_at "item") => `(tactic| first | exact rfl | exact atI_nat (j := 0) rfl | exact atI_nat (j := 1) rfl | exact atI_nat (j := 2) rfl | assumption)
local macro_rules | `(tactic| walk_at "rd") => `(tactic| repeat (first
  | ((with_reducible refine' go_var ?hv ?_); (case hv => exact rfl))
  | with_reducible refine' go_c ?_
  | with_reducible refine' go_op ?_
  | with_reducible refine' go_seq ?_
  | with_reducible refine' go_asg ?_
  | with_reducible refine' go_name ?_
  | with_reducible refine' go_cons ?_
  | with_reducible refine' go_nil ?_
  | with_reducible refine' go_cb ?_
  | with_reducible refine' go_call ?_
  | with_reducible refine' go_ifS ?_
  | with_reducible refine' go_test ?_
  | with_reducible refine' go_bl ?_
  | with_reducible refine' go_ret ?_
  | with_reducible refine' go_I0 ?_
  | ((with_reducible refine' go_I ?cc ?_); (case cc => walk_at "side"))
  | ((with_reducible refine' go_ixL ?hh ?hk ?_); (case hh => walk_at "heap"); (case hk => walk_at "item"))
  | ((with_reducible refine' go_ixT ?hh ?hk ?_); (case hh => walk_at "heap"); (case hk => walk_at "item"))
  | ((with_reducible refine' go_lenL ?hh ?_); (case hh => walk_at "heap"))
  | ((with_reducible refine' go_lenT ?hh ?_); (case hh => walk_at "heap"))
  | ((with_reducible refine' go_setL ?hh ?hk ?_); (case hh => walk_at "heap"); (case hk => walk_at "item"))
  | with_reducible refine' go_abs ?_
  | with_reducible refine' go_max ?_
  | with_reducible refine' go_min ?_
  | with_reducible refine' go_int ?_
  | with_reducible refine' go_intB ?_
  | (with_reducible refine' go_eq rfl ?_)
  | (with_reducible refine' go_ne rfl ?_)
  | with_reducible refine' go_isN ?_
  | with_reducible refine' go_notN ?_
  | with_reducible refine' go_if ?_
  | with_reducible refine' go_sub ?_
  | with_reducible refine' go_par ?_
  | with_reducible refine' go_sl ?_
  | with_reducible refine' go_part ?_
  | with_reducible refine' go_pint ?_
  | with_reducible refine' go_nopart ?_
  | ((with_reducible refine' go_lenL ?hh ?_); (case hh => walk_at "heap"))
  | ((with_reducible refine' go_lenT ?hh ?_); (case hh => walk_at "heap"))
  | ((with_reducible refine' go_lenS ?hh ?_); (case hh => assumption))
  | with_reducible refine' go_gcons ?_
  | with_reducible refine' go_gnil ?_
  | with_reducible refine' go_kw ?_
  | with_reducible refine' go_par2 ?_
  | with_reducible refine' go_next ?_
  | with_reducible refine' go_drop ?_
  | with_reducible refine' go_and ?_
  | with_reducible refine' go_or ?_
  | with_reducible refine' go_not ?_
  | with_reducible refine' go_B ?_
  | with_reducible refine' go_andV ?_
  | with_reducible refine' go_orV ?_
  | with_reducible refine' go_notV ?_
  | with_reducible refine' go_chain ?_
  | with_reducible refine' go_un ?_
  | with_reducible refine' go_U ?_
  | with_reducible refine' go_bm ?_
  | with_reducible refine' go_tup ?_
  | with_reducible refine' go_lst ?_
  | ((with_reducible refine' go_listL ?hh ?_); (case hh => walk_at "heap"))
  | with_reducible refine' go_forR1 ?_
  | with_reducible refine' go_forR2 ?_
  | with_reducible refine' go_forL ?_
  | with_reducible refine' go_forT ?_
  | with_reducible refine' go_forE ?_
  | with_reducible refine' go_lcR1 ?_
  | with_reducible refine' go_lcL ?_
  | with_reducible refine' go_lcT ?_
  | ((with_reducible refine' go_tyL ?hh ?_); (case hh => walk_at "heap"))
  | ((with_reducible refine' go_new ?hz ?_); (case hz => exact Nat.le_of_ble_eq_true rfl))
  | (with_reducible refine' ⟨_, rfl, ?_⟩)
  ))
--MACEND
section
variable {P : Program} {w : World} {K : PySem.W.Frag} {mg : Str → Option Value} {base : Heap}
theorem stg_mid {H : Hp} {v : V} {s : Stg} {b : Int} (h : Dq H v s.d) (ho : s.ok b) (hb : 0 ≤ b) : ∃ (a : Addr) (x : V) (i : Int) (r : List V), v = .ref a ∧ Rd H a (.tup (x :: .int i :: r)) ∧ -b ≤ i ∧ i ≤ b := by
  obtain ⟨a, rfl, h⟩ := stg_at h
  cases s with
  | mix lo => exact ⟨a, _, lo, _, rfl, h, by have := ho.1; omega, ho.2⟩
  | dial lo => exact ⟨a, _, lo, _, rfl, h, ho.1, ho.2⟩
  | pass lo hi => exact ⟨a, _, lo, _, rfl, h, by have := ho.1; omega, Int.le_trans ho.2.1 ho.2.2⟩
theorem go_yes {σ : L2.St} {H : Hp} {QT : Bool → Hp → Prop} (h : QT true H) : tYes σ H QT := h
theorem jar_ex {n : Nat} {H H' : Hp} {j : Addr} (e : Ex H H') (h : JarAt n H j) : JarAt n H' j := by
  obtain ⟨a, b, c, h1, h2⟩ := h
  exact ⟨a, b, c, e _ _ h1, h2⟩
theorem ex_of_jx {j : Addr} {H G : Hp} (e : Jx [j] H G) (h : H j = none) : Ex H G := fun b o q => by
  have hb : b ≠ j := fun z => by rw [z, h] at q; cases q
  exact e.get q (nin1 hb)
theorem Rad.mono {b c : Int} {ss : List Stg} {rate : Option Int} (R : Rad b ss rate) (h : b ≤ c) : Rad c ss rate := by
  refine ⟨R.ne, R.le, fun s hs => ?_, R.one, fun r hr => ?_⟩
  · have := R.ok s hs
    cases s with
    | mix lo => exact ⟨this.1, Int.le_trans this.2 h⟩
    | dial lo => exact ⟨by have := this.1; omega, Int.le_trans this.2 h⟩
    | pass lo hi => exact ⟨this.1, this.2.1, Int.le_trans this.2.2 h⟩
  · have := R.rate r hr
    omega
theorem rate_opt {H : Hp} {v : V} {rate : Option Int} (h : Dq H v (rateD rate)) : v = optV rate := by
  cases rate <;> cases h <;> rfl
theorem dq_ints (H : Hp) : ∀ l : List Int, DqAll H (l.map V.int) (l.map PyData.int)
  | [] => .nil
  | z :: l => .cons (.int z) (dq_ints H l)
theorem zig_ok {a : Int} (h : 0 ≤ a) : ∀ {c : Nat} {s : Stg}, s ∈ zig a c → s.ok (a * 2 ^ c)
  | c + 1, s, hs => by
    have h2 : 0 ≤ a * 2 ^ c := Int.mul_nonneg h (Int.le_of_lt (Int.pow_pos (by decide)))
    have e : a * 2 ^ (c + 1) = 2 * (a * 2 ^ c) := by rw [Int.pow_succ, ← Int.mul_assoc, Int.mul_comm]
    rcases List.mem_cons.mp hs with rfl | hs
    · exact ⟨h2, by rw [e]; omega⟩
    · have := zig_ok h hs
      rw [e]
      cases s with
      | mix lo => exact ⟨this.1, by have := this.2; omega⟩
      | dial lo => exact ⟨by have := this.1; omega, by have := this.2; omega⟩
      | pass lo hi => exact ⟨this.1, this.2.1, by have := this.2.2; omega⟩
theorem zig_rad {a : Int} {rate : Option Int} {b : Int} (h : 0 ≤ a) (hb : a * 2 ^ 8 ≤ b) (hr : ∀ r, rate = some r → 2 ≤ r ∧ r ≤ b) : Rad b (zig a 8) rate := by
  refine ⟨by simp [zig], by rw [zig_len]; decide, fun s hs => ?_, by simp [zig, dials, Stg.isDial], hr⟩
  have := zig_ok h hs
  cases s with
  | mix lo => exact ⟨this.1, by have := this.2; omega⟩
  | dial lo => exact ⟨by have := this.1; omega, by have := this.2; omega⟩
  | pass lo hi => exact ⟨this.1, this.2.1, by have := this.2.2; omega⟩
theorem go_neT {K : PySem.W.Frag} {H : Hp} {Q : VK} {x y : V} {d e : PyData} (h1 : Dq H x d) (h2 : Dq H y e) (s1 : SeqAt.shaped d = true) (s2 : SeqAt.shaped e = true) (he : PyData.eqv d e = true) (q : Q (.bl false) H) : rNeD K x y H Q :=
  go_neD h1 h2 s1 s2 (by rw [he]; exact q)
theorem go_eqT {K : PySem.W.Frag} {H : Hp} {Q : VK} {x y : V} {d e : PyData} (h1 : Dq H x d) (h2 : Dq H y e) (s1 : SeqAt.shaped d = true) (s2 : SeqAt.shaped e = true) (he : PyData.eqv d e = true) (q : Q (.bl true) H) : rEqD K x y H Q :=
  go_eqD h1 h2 s1 s2 (by rw [he]; exact q)
theorem dq_stg0 {G : Hp} {q : Addr} {s : Stg} (h : G q = some (.tup s.vals)) : Dq G (.ref q) s.d := by
  cases s with
  | mix x => exact .tup (.inl h) (.cons (.str _) (.cons (.int _) .nil))
  | dial x => exact .tup (.inl h) (.cons (.str _) (.cons (.int _) .nil))
  | pass lo hi => exact .tup (.inl h) (.cons (.str _) (.cons (.int _) (.cons (.int _) .nil)))
theorem dq_rate (H : Hp) : ∀ o : Option Int, Dq H (optV o) (rateD o)
  | none => .non
  | some i => .int i
theorem dq_two_stages {G : Hp} {s1 s2 : Stg} {a1 a2 a3 a4 : Addr} {rate : Option Int} (h1 : G a1 = some (.tup s1.vals)) (h2 : G a2 = some (.tup s2.vals)) (h3 : G a3 = some (.lst [.ref a1, .ref a2])) (h4 : G a4 = some (.tup [.ref a3, optV rate])) : Dq G (.ref a4) (radD [s1, s2] rate) :=
  .tup (.inl h4) (.cons (.lst (.inl h3) (.cons (dq_stg0 h1) (.cons (dq_stg0 h2) .nil))) (.cons (dq_rate _ _) .nil))
theorem dq_one_stage {G : Hp} {s1 : Stg} {a1 a3 a4 : Addr} {rate : Option Int} (h1 : G a1 = some (.tup s1.vals)) (h3 : G a3 = some (.lst [.ref a1])) (h4 : G a4 = some (.tup [.ref a3, optV rate])) : Dq G (.ref a4) (radD [s1] rate) :=
  .tup (.inl h4) (.cons (.lst (.inl h3) (.cons (dq_stg0 h1) .nil)) (.cons (dq_rate _ _) .nil))
def spLaw (K : PySem.W.Frag) : Sp := fun vs H Q _ => ∃ (a : Addr) (ns : List Int), vs = [.ref a] ∧ ns.length ≤ 100000 ∧ SqL K H a (ns.map V.int) ∧ ∀ H', Q (.bl true) H'
abbrev s_law : Stmt := top 32
theorem sc_law : FnScope ["script", "at", "jar", "lap", "far", "radio", "tuned", "near", "stage", "waves", "wave", "wide", "due", "size", "told", "rate_here"] ["script"] (defScope s_law) := ⟨rfl, rfl, rfl, by decide +kernel, rfl, by decide +kernel, by decide +kernel⟩
theorem ok_law {f : Addr} {fd : FuncData} (F : Fun K "law" "law" s_law f fd) (m_range : mg "range" = none) (m_max : mg "max" = none) (m_min : mg "min" = none) (m_len : mg "len" = none) (m_abs : mg "abs" = none)
    (h__law_jar : Has P w K mg base 1 "_law_jar" (spJar K)) (h__law_pick : Has P w K mg base 1 "_law_pick" spPick) (h__law_radio : Has P w K mg base 2 "_law_radio" spRadio) (h__law_right : HasG P w K mg base 8 "_law_right" spRight)
    (h__law_zigzag : Has P w K mg base 1 "_law_zigzag" spZig) (h_stage_tones : Has P w K mg base 6 "stage_tones" spTones) (h_tone_at : Has P w K mg base 7 "tone_at" spTone) :
    FnG P w K mg base CX0 9 f fd ["script"] (spLaw K) := by
  refine okG F sc_law (fun vs H Q E h => ?_) (fun cdv A outer s H vs Q E hgd hr h => ?_)
  · obtain ⟨a, ns, rfl, _⟩ := h
    rfl
  · obtain ⟨a, ns, rfl, hlen, hS, k⟩ := h
    refine ⟨_, PSs.nox ((pss_cons (ps_for PassesOwn.never rfl (pi_range1 (by rfl) m_range (pa_cons (pe_callB (call_maxQ rfl) rfl m_max boot_max (pa_cons pe_int (pa_cons (pe_callB (call_minQ rfl) rfl m_min boot_min (pa_cons pe_int (pa_cons (pe_callB call_lenQ rfl m_len PySem.boot_len (pa_cons (pv 0) pa_nil)) pa_nil))) pa_nil))) pa_nil)) (pg_name (i := 1) sc_law.nd rfl (Or.inl rfl))
  (pss_cons (ps_set (i := 2) sc_law.nd rfl (Or.inl rfl) (pe_hs h__law_jar hr rfl (pa_cons (pv 0) (pa_cons (pv 1) pa_nil))))
  (pss_one (ps_for PassesOwn.never rfl (pi_range1 (by rfl) m_range (pa_cons pe_int pa_nil)) (pg_name (i := 3) sc_law.nd rfl (Or.inl rfl))
  (pss_cons (ps_set (i := 4) sc_law.nd rfl (Or.inl rfl) (pe_ix ix_list (pe_lst (pa_cons pe_int (pa_cons pe_int (pa_cons (pe_op op_powW pe_int pe_int) pa_nil)))) (pe_hs h__law_pick hr rfl (pa_cons (pv 2) (pa_cons pe_int pa_nil))) (fun _ _ => rfl)))
  (pss_cons (ps_par (i := 5) (j := 6) (by rfl) sc_law.nd rfl rfl (by decide) rfl rfl (pa_cons (pe_hs h__law_radio hr rfl (pa_cons (pv 2) (pa_cons pe_int (pa_cons (pv 4) pa_nil)))) (pa_cons (pe_op op_sub (pe_hs h__law_pick hr rfl (pa_cons (pv 2) (pa_cons (pe_op op_add (pe_op op_mul pe_int (pv 4)) pe_int) pa_nil))) (pv 4)) pa_nil)) (by rfl))
  (pss_cons (ps_set (i := 7) sc_law.nd rfl (Or.inl rfl) (pe_op op_cat (pe_lc (own := [("stage", 8)]) (g := gName 8) (by rfl) (sc_law).nd (pi_list (pe_ix ix_tup (pv 5) pe_int (fun _ _ => rfl))) (blkOk_by (own := [("stage", 8)]) (N := ["script", "at", "jar", "lap", "far", "radio", "tuned", "near", "stage", "waves", "wave", "wide", "due", "size", "told", "rate_here"]) (sc := defScope s_law) (by decide +kernel)) (fun _ _ _ _ _ => pg_name (i := 8) (sc_law).nd rfl (Or.inl rfl)) (fun _ _ _ _ _ => pts_nil) (fun _ _ _ _ _ => (pe_callB call_absQ rfl m_abs (by decide +kernel) (pa_cons (pe_ix (show IxR _ (rIxT K) from ix_tup) (pv 8) pe_int (fun _ _ => rfl)) pa_nil)))) (pe_lst (pa_cons pe_int (pa_cons (pe_ifExp (pt_cmpR op_notN1 (pe_ix ix_tup (pv 5) pe_int (fun _ _ => rfl)) pe_non (nomark _)) (pe_ix ix_tup (pv 5) pe_int (fun _ _ => rfl)) (pv 4)) pa_nil)))))
  (pss_cons (ps_set (i := 9) sc_law.nd rfl (Or.inl rfl) (pe_lst (pa_cons (pe_hs h__law_pick hr rfl (pa_cons (pv 2) (pa_cons (pe_op op_mul pe_int (pv 4)) pa_nil))) (pa_cons (pe_hs h__law_pick hr rfl (pa_cons (pv 2) (pa_cons pe_int pa_nil))) (pa_cons (pe_op op_powW pe_int pe_int) pa_nil)))))
  (pss_cons (ps_expr (pe_bm PySem.F.plainAttrs_list PySem.F.slot_list_append PySem.F.type_list_append mt_append (pv 9) (pa_cons (pe_op op_add (pe_ix ix_list (pv 7) (pe_hs h__law_pick hr rfl (pa_cons (pv 2) (pa_cons (pe_callB call_lenQ rfl m_len PySem.boot_len (pa_cons (pv 7) pa_nil)) pa_nil))) (fun _ _ => rfl)) (pe_hs h__law_pick hr rfl (pa_cons (pv 2) (pa_cons pe_int pa_nil)))) pa_nil)))
  (pss_one (ps_for PassesOwn.never rfl (pi_list (pe_op op_cat (pv 9) (pe_lst (pa_cons (pe_callB (call_maxQ rfl) rfl m_max boot_max (pa_cons pe_int (pa_cons (pe_op op_sub (pe_op op_add (pv 6) (pe_hs h__law_pick hr rfl (pa_cons (pv 2) (pa_cons pe_int pa_nil)))) pe_int) pa_nil))) pa_nil)))) (pg_name (i := 10) sc_law.nd rfl (Or.inl rfl))
  (pss_one (ps_if (pt_not (pt_val (pe_hsG h__law_right hgd hr rfl (pa_cons (pv 5) (pa_cons (pv 6) (pa_cons (pv 10) pa_nil))))))
  (pss_one (ps_ret pe_bl))
  pss_nil)))))))))))))
  (pss_cons (ps_set (i := 11) sc_law.nd rfl (Or.inr rfl) (pe_op op_powW pe_int pe_int))
  (pss_cons (ps_setLc (i := 12) (own := [("size", 13)]) (g := gName 13) (by rfl) sc_law.nd rfl rfl (sw_true rfl rfl rfl (by decide +kernel)) (pi_tup (pe_tup (pa_cons pe_int (pa_cons pe_int (pa_cons pe_int (pa_cons pe_int (pa_cons pe_int (pa_cons pe_int (pa_cons pe_int (pa_cons pe_int pa_nil)))))))))) (blkOk_by (own := [("size", 13)]) (N := ["script", "at", "jar", "lap", "far", "radio", "tuned", "near", "stage", "waves", "wave", "wide", "due", "size", "told", "rate_here"]) (sc := defScope s_law) (by decide +kernel)) (fun _ _ _ _ _ => pg_name (i := 13) (sc_law).nd rfl (Or.inl rfl)) (fun _ _ _ _ _ => pts_nil) (fun _ _ _ _ _ => (pe_op op_mul (pv 13) (pv 11))))
  (pss_cons (ps_if (pt_cmpR (op_neD hr.units) (pe_hs h_stage_tones hr rfl (pa_cons (pe_tup (pa_cons (pe_hs h__law_zigzag hr rfl (pa_cons (pv 11) (pa_cons pe_int pa_nil))) (pa_cons pe_non pa_nil))) (pa_cons pe_int (pa_cons pe_int pa_nil)))) (pv 12) (nomark _))
  (pss_one (ps_ret pe_bl))
  pss_nil)
  (pss_cons (ps_if (pt_cmpR op_ne (pe_hs h_tone_at hr rfl (pa_cons (pe_tup (pa_cons (pe_hs h__law_zigzag hr rfl (pa_cons (pv 11) (pa_cons pe_int pa_nil))) (pa_cons (pe_op op_mul pe_int (pv 11)) pa_nil))) (pa_cons pe_int (pa_cons (pe_op op_add (pe_op op_mul pe_int (pv 11)) pe_int) pa_nil)))) pe_int (nomark _))
  (pss_one (ps_ret pe_bl))
  pss_nil)
  (pss_cons (ps_set (i := 14) sc_law.nd rfl (Or.inl rfl) (pe_lst (pa_cons (pe_hs h_stage_tones hr rfl (pa_cons (pe_tup (pa_cons (pe_lst (pa_cons (pe_tup (pa_cons pe_str (pa_cons pe_int pa_nil))) (pa_cons (pe_tup (pa_cons pe_str (pa_cons pe_int pa_nil))) pa_nil))) (pa_cons pe_int pa_nil))) (pa_cons pe_int (pa_cons pe_int pa_nil)))) (pa_cons (pe_hs h_stage_tones hr rfl (pa_cons (pe_tup (pa_cons (pe_lst (pa_cons (pe_tup (pa_cons pe_str (pa_cons pe_int pa_nil))) (pa_cons (pe_tup (pa_cons pe_str (pa_cons pe_int (pa_cons pe_int pa_nil)))) pa_nil))) (pa_cons pe_int pa_nil))) (pa_cons pe_int (pa_cons pe_int pa_nil)))) pa_nil))))
  (pss_cons (ps_if (pt_cmpR (op_neD hr.units) (pv 14) (pe_lst (pa_cons (pe_lst (pa_cons pe_int (pa_cons pe_int (pa_cons pe_int pa_nil)))) (pa_cons (pe_lst (pa_cons pe_int (pa_cons pe_non (pa_cons pe_non pa_nil)))) pa_nil))) (nomark _))
  (pss_one (ps_ret pe_bl))
  pss_nil)
  (pss_one (ps_ret (pe_cmpR (op_eqD hr.units) (pe_lc (own := [("rate_here", 15)]) (g := gName 15) (by rfl) (sc_law).nd (pi_tup (pe_tup (pa_cons pe_int (pa_cons pe_int (pa_cons pe_non pa_nil))))) (blkOk_by (own := [("rate_here", 15)]) (N := ["script", "at", "jar", "lap", "far", "radio", "tuned", "near", "stage", "waves", "wave", "wide", "due", "size", "told", "rate_here"]) (sc := defScope s_law) (by decide +kernel)) (fun _ _ _ _ _ => pg_name (i := 15) (sc_law).nd rfl (Or.inl rfl)) (fun _ _ _ _ _ => pts_nil) (fun _ _ _ _ _ => (pe_hs h_tone_at hr rfl (pa_cons (pe_tup (pa_cons (pe_lst (pa_cons (pe_tup (pa_cons pe_str (pa_cons pe_int pa_nil))) pa_nil)) (pa_cons (pv 15) pa_nil))) (pa_cons pe_int (pa_cons (pe_op op_sub (pe_op op_powW pe_int pe_int) pe_int) pa_nil)))))) (pe_lst (pa_cons pe_int (pa_cons pe_int (pa_cons (pe_op op_sub (pe_op op_powW pe_int pe_int) pe_int) pa_nil)))) (nomark _)))))))))))), ?_⟩
    walk_at "rd"
    generalize hm : (if (if ((ns.map V.int).length : Int) < 8 then ((ns.map V.int).length : Int) else 8) > 1 then (if ((ns.map V.int).length : Int) < 8 then ((ns.map V.int).length : Int) else 8) else 1) = m
    have m18 : 1 ≤ m ∧ m ≤ 8 := by
      rw [← hm]
      constructor <;> (repeat' split) <;> omega
    refine ⟨by omega, by omega, ?_⟩
    refine run_forR (fun i σ G => ∃ v1 v2 v3 v4 v5 v6 v7 v9 v10 : Option V, σ = [some (.ref a), v1, v2, v3, v4, v5, v6, v7, none, v9, v10, none, none, none, none, none] ∧ Ex H G) ?_ ?_ ?_
    · exact ⟨_, _, _, _, _, _, _, _, _, rfl, Ex.refl _⟩
    · rintro i σ G hi ⟨v1, v2, v3, v4, v5, v6, v7, v9, v10, rfl, eG⟩
      walk_at "rd"
      refine ⟨a, ns, i, by simp, Evl.ex_l eG hS, by omega, fun j G1 hj e1 hJ => ?_⟩
      have hjH : H j = none := Evl.fresh_back eG hj
      have eG1 := eG.trans e1
      walk_at "rd"
      refine ⟨by decide, by decide, ?_⟩
      refine run_forR (fun i' σ G => ∃ v3 v4 v5 v6 v7 v9 v10 : Option V, σ = [some (.ref a), some (.int (0 + (i : Int))), some (.ref j), v3, v4, v5, v6, v7, none, v9, v10, none, none, none, none, none] ∧ JarAt (1000 * i') G j ∧ Ex H G) ?_ ?_ ?_
      · exact ⟨_, _, _, _, _, _, _, rfl, hJ.mono (by omega), eG1⟩
      · clear hJ eG1 e1 eG hj
        rintro i' σ G hi' ⟨v3, v4, v5, v6, v7, v9, v10, rfl, hJ, eG⟩
        have hi6 : i' < 6 := by omega
        walk_at "rd"
        intro p hp
        have hpj : p ≠ j := fresh_ne hJ.obj.choose_spec hp
        walk_at "rd"
        refine pick_go (hJ.keep (upd_ne hpj.symm)) (by omega) (by omega) (by omega) fun u G1 u0 u1 J1 y1 => ?_
        have hp1 := y1.get upd_same (nin1 hpj)
        have x1 : Jx [j] G G1 := (Jx.new hp).tr y1
        obtain ⟨far, ef, f9, f38⟩ := menu_int [9, 60, 10 ^ 38] 9 (10 ^ 38) u0 (by simpa using u1) (by simp)
        refine go_ixL (.inl hp1) ef ?_
        walk_at "rd"
        refine ⟨j, 8, far, _, rfl, J1, by omega, by decide, by decide, by omega, by omega, fun pr ss rate G2 R hlen hd hpr J2 y2 => ?_⟩
        have x2 := x1.tr y2
        walk_at "rd"
        refine pick_go J2 (by omega) (by omega) (by omega) fun u2 G3 u20 u21 J3 y3 => ?_
        have x3 := x2.tr y3
        have hd3 := y3.dq hd
        walk_at "rd"
        obtain ⟨pr', xs, er, hrt, hda⟩ := Dq.tupleAt (ds := [.list (ss.map Stg.d), rateD rate]) hd3
        cases er
        obtain ⟨w1, w2, d1, d2, rfl, ed, hw1, hw2⟩ := dqa2 hda rfl
        obtain ⟨rfl, rfl⟩ : PyData.list (ss.map Stg.d) = d1 ∧ rateD rate = d2 := by simpa using ed
        obtain ⟨l, ys, rfl, hl, hys⟩ := hw1.listAt
        obtain rfl := rate_opt hw2
        have hly : ys.length ≤ 8 := by rw [hys.len, List.length_map]; exact hlen
        refine go_ixT (Evl.ex_rd hid_ex hrt) (atI_nat (j := 0) rfl) ?_
        refine ⟨l, rfl, ⟨_, .inl (Evl.ex_rd hid_ex hl)⟩, ?_⟩
        refine run_lcL ys (fun D i G => ∃ zs : List Int, G D = some (.lst (zs.map V.int)) ∧ zs.length = i ∧ (∀ z ∈ zs, 0 ≤ z ∧ z ≤ 10 * far + 20) ∧ Ex G3 G ∧ G3 D = none) ?_ ?_ ?_ ?_
        · exact fun D hD => ⟨[], upd_same, rfl, (fun _ h => nomatch h), Ex.new hD, hD⟩
        · rintro D i G _ ⟨zs, _, _, _, e, _⟩
          exact .inl (Evl.ex_rd e (Evl.ex_rd hid_ex hl))
        · rintro D i x G hx ⟨zs, hD, hz, hb, e, hfr⟩
          obtain ⟨st, hst, hdst⟩ := dqa_get hys hx
          obtain ⟨sa, sx, si, sr, rfl, hsa, si0, si1⟩ := stg_mid (hdst.ex hid_ex) (R.ok st (List.mem_of_getElem? hst)) (by omega)
          have hil : i < ys.length := (List.getElem?_eq_some_iff.mp hx).1
          walk_at "rd"
          refine ⟨rfl, go_yes (iteT ?_)⟩
          walk_at "rd"
          refine go_ixT (Evl.ex_rd e hsa) (atI_nat (j := 1) rfl) ?_
          walk_at "rd"
          refine ⟨_, hD, ?_, zs ++ [if si < 0 then -si else si], by rw [List.map_append]; exact upd_same, by simp [hz], fun z hz => ?_, Ex.mut e hfr, hfr⟩
          · rw [List.length_map, hz]
            exact Nat.lt_of_lt_of_le (by omega : i < 9) (by decide)
          · rcases List.mem_append.mp hz with hz | hz
            · exact hb z hz
            · rw [List.mem_singleton.mp hz]
              split <;> constructor <;> omega
        rintro D G4 hDn ⟨zs, hD, hzl, hzb, e4, _⟩
        refine cut_e (te := tLst _) (fun v H' => ∃ (q : Addr) (z : Int), v = .ref q ∧ H' q = some (.lst ([0, z].map V.int)) ∧ 0 ≤ z ∧ z ≤ 10 * far + 20 ∧ Ex G4 H') (fun Q' q => ?_) ?_
        · walk_at "rd"
          refine go_ixT (Evl.ex_rd e4 (Evl.ex_rd hid_ex hrt)) (atI_nat (j := 1) rfl) ?_
          walk_at "rd"
          cases rate with
          | none =>
            refine iteF ?_
            walk_at "rd"
            exact fun p hp => q _ _ ⟨p, far, rfl, upd_same, by omega, by omega, Ex.new hp⟩
          | some r =>
            have hr2 := R.rate r rfl
            refine iteT ?_
            walk_at "rd"
            refine go_ixT (Evl.ex_rd e4 (Evl.ex_rd hid_ex hrt)) (atI_nat (j := 1) rfl) ?_
            walk_at "rd"
            exact fun p hp => q _ _ ⟨p, r, rfl, upd_same, by omega, by omega, Ex.new hp⟩
        rintro v G5 ⟨q, z, rfl, hq, z0, z1, e5⟩
        refine go_cat (e5 _ _ hD) hq ?_ fun near hn => ?_
        · rw [List.length_map, List.length_map, hzl]
          exact Nat.le_trans (show ys.length + [0, z].length ≤ 100 by simp; omega) (by decide)
        rw [← List.map_append]
        obtain ⟨nl, enl⟩ : ∃ nl, nl = zs ++ [0, z] := ⟨_, rfl⟩
        rw [← enl]
        have hnl : ∀ x ∈ nl, 0 ≤ x ∧ x ≤ 10 * far + 20 := fun x hx => by
          rw [enl] at hx
          rcases List.mem_append.mp hx with hx | hx
          · exact hzb x hx
          · simp only [List.mem_cons, List.not_mem_nil, or_false] at hx
            rcases hx with rfl | rfl <;> constructor <;> omega
        have hnl0 : 2 ≤ nl.length ∧ nl.length ≤ 10 := by rw [enl, List.length_append, hzl]; simp; omega
        have e6 : Ex G3 _ := (e4.trans e5).trans (Ex.new (o := HO.lst (nl.map V.int)) hn)
        have J6 := jar_ex e6 J3
        have hd6 := (Jx.of (S := [j]) e6).dq hd3
        have x6 : Jx [j] G _ := x3.tr (Jx.of e6)
        have hnj : near ≠ j := fresh_ne (jar_ex (e4.trans e5) J3).obj.choose_spec hn
        have hnr : upd G5 near (.lst (nl.map V.int)) near = _ := upd_same
        revert e6 J6 hd6 x6 hnr
        generalize upd G5 near _ = G6
        intro e6 J6 hd6 x6 hnr
        walk_at "rd"
        refine pick_go J6 (by omega) (by omega) (by omega) fun a1 G7 a10 a11 J7 y7 => ?_
        walk_at "rd"
        refine pick_go J7 (by omega) (by omega) (by omega) fun a2 G8 a20 a21 J8 y8 => ?_
        walk_at "rd"
        intro wv hwv
        have hwj : wv ≠ j := fresh_ne J8.obj.choose_spec hwv
        have hnr8 := y8.get (y7.get hnr (nin1 hnj)) (nin1 hnj)
        have hnw : wv ≠ near := fresh_ne hnr8 hwv
        have hnr9 : upd G8 wv (.lst ([a1, a2, 10 ^ 39].map V.int)) near = _ := (upd_ne hnw.symm).trans hnr8
        have J9 := J8.keep (upd_ne (o := .lst ([a1, a2, 10 ^ 39].map V.int)) (H := G8) hwj.symm)
        have x8 := (x6.tr y7).tr y8
        have hd8 := y8.dq (y7.dq hd6)
        have x9 : Jx [j] G8 (upd G8 wv (.lst ([a1, a2, 10 ^ 39].map V.int))) := Jx.new hwv
        have hw9 : upd G8 wv (.lst ([a1, a2, 10 ^ 39].map V.int)) wv = _ := upd_same
        revert hnr9 J9 x9 hw9
        show upd G8 wv (.lst ([a1, a2, 10 ^ 39].map V.int)) near = _ → JarAt _ (upd G8 wv (.lst ([a1, a2, 10 ^ 39].map V.int))) j → _ → _ → gName 9 (.ref wv) _ (upd G8 wv (.lst ([a1, a2, 10 ^ 39].map V.int))) _
        generalize upd G8 wv (.lst ([a1, a2, 10 ^ 39].map V.int)) = G9
        intro hnr9 J9 x9 hw9
        walk_at "rd"
        refine pick_go J9 (by omega) (by rw [List.length_map]; omega) (by rw [List.length_map]; omega) fun a3 G10 a30 a31 J10 y10 => ?_
        have hnr10 := y10.get hnr9 (nin1 hnj)
        obtain ⟨nx, enx, nx0, nx1⟩ := menu_int nl 0 (10 * far + 20) a30 (by rw [List.length_map] at a31; exact a31) hnl
        refine go_ixL (.inl hnr10) enx ?_
        walk_at "rd"
        refine pick_go J10 (by omega) (by omega) (by omega) fun a4 G11 a40 a41 J11 y11 => ?_
        have hw11 := y11.get (y10.get hw9 (nin1 hwj)) (nin1 hwj)
        walk_at "rd"
        refine go_app hw11 (Nat.lt_of_lt_of_le (show 3 < 100 by decide) (by decide)) ?_
        have J12 := J11.keep (upd_ne (o := .lst ([a1, a2, 10 ^ 39].map V.int ++ [.int (nx + a4)])) (H := G11) hwj.symm)
        have hw12 : upd G11 wv (.lst ([a1, a2, 10 ^ 39].map V.int ++ [.int (nx + a4)])) wv = _ := upd_same
        walk_at "rd"
        have x12 : Jx [j] G8 (upd G11 wv (.lst ([a1, a2, 10 ^ 39].map V.int ++ [.int (nx + a4)]))) := Jx.less (l := wv) ((((x9.tr y10).tr y11).more (by simp)).tr (Jx.upd (by simp))) hwv
        have hd12 := x12.dq hd8
        have xG := x8.tr x12
        revert J12 hw12 hd12 xG
        generalize upd G11 wv _ = G12
        intro J12 hw12 hd12 xG
        refine pick_go J12 (by omega) (by omega) (by omega) fun a5 G13 a50 a51 J13 y13 => ?_
        walk_at "rd"
        intro q5 hq5
        have hw13 := y13.get hw12 (nin1 hwj)
        refine go_cat (Ex.new hq5 _ _ hw13) upd_same (Nat.le_trans (show 4 + 1 ≤ 100 by decide) (by decide)) fun c hc => ?_
        obtain ⟨mx, emx, mx0, mx1⟩ : ∃ mx : Int, mx = (if u2 - far + a5 - 4 > 0 then u2 - far + a5 - 4 else 0) ∧ 0 ≤ mx ∧ mx ≤ far + 20 := ⟨_, rfl, by split <;> omega, by split <;> omega⟩
        rw [← emx] at hc ⊢
        have ew : List.map V.int [a1, a2, 10 ^ 39] ++ [V.int (nx + a4)] ++ [V.int mx] = [a1, a2, 10 ^ 39, nx + a4, mx].map V.int := rfl
        rw [ew]
        have hc1 : upd (upd G13 q5 (.lst [.int mx])) c (.lst ([a1, a2, 10 ^ 39, nx + a4, mx].map V.int)) c = _ := upd_same
        have e14 : Ex G13 (upd (upd G13 q5 (.lst [.int mx])) c (.lst ([a1, a2, 10 ^ 39, nx + a4, mx].map V.int))) := (Ex.new hq5).trans (Ex.new hc)
        have J14 := jar_ex e14 J13
        have hd14 := (Jx.of (S := [j]) e14).dq (y13.dq hd12)
        have xG14 := (xG.tr y13).tr (Jx.of e14)
        revert hc1 J14 hd14 xG14
        generalize upd _ c _ = G14
        intro hc1 J14 hd14 xG14
        have hbig : ∀ x ∈ [a1, a2, 10 ^ 39, nx + a4, mx], 0 ≤ x ∧ x ≤ 2 ^ 300 := fun x hx => by
          simp only [List.mem_cons, List.not_mem_nil, or_false] at hx
          rcases hx with rfl | rfl | rfl | rfl | rfl <;> constructor <;> omega
        generalize hbg : [a1, a2, 10 ^ 39, nx + a4, mx] = big at *
        refine ⟨_, rfl, ⟨_, .inl (.inl hc1)⟩, ?_⟩
        have eG14 := eG.trans (Ex.refl _)
        refine run_forL (big.map V.int) (fun _ σ' G' => ∃ v10 : Option V, σ' = [some (.ref a), some (.int (0 + (i : Int))), some (.ref j), some (.int (0 + (i' : Int))), some (.int far), some (.ref pr), some (.int (u2 - far)), some (.ref near), none, some (.ref wv), v10, none, none, none, none, none] ∧ Ex G14 G') ?_ ?_ ?_ ?_
        · exact ⟨_, rfl, Ex.refl _⟩
        · rintro i2 σ' G' _ ⟨v10', rfl, e⟩
          exact .inl (.inl (e _ _ hc1))
        · rintro i2 x σ' G' hx ⟨v10', rfl, e⟩
          rw [List.getElem?_map] at hx
          obtain ⟨z, hz, rfl⟩ := Option.map_eq_some_iff.mp hx
          have hzb := hbig z (List.mem_of_getElem? hz)
          walk_at "rd"
          refine ⟨.ref pr, u2 - far, z, ss, rate, rfl, (hd14.ex hid_ex).ex e, R.mono (by omega), hzb.1, hzb.2, by omega, by omega, fun G2' e2 => ?_⟩
          walk_at "rd"
          refine iteF ?_
          walk_at "rd"
          exact e.trans e2
        · rintro σ' G' ⟨v10', rfl, e⟩
          refine ⟨_, _, _, _, _, _, _, rfl, jar_ex e (J14.mono (by omega)), ?_⟩
          have := ex_of_jx ((Jx.of eG).tr xG14) hjH
          exact this.trans e
      · rintro σ G ⟨v3, v4, v5, v6, v7, v9, v10, rfl, hJ, eG⟩
        exact ⟨_, _, _, _, _, _, _, _, _, rfl, eG⟩
    · rintro σ G ⟨v1, v2, v3, v4, v5, v6, v7, v9, v10, rfl, eG⟩
      walk_at "rd"
      intro p hp
      refine ⟨p, rfl, ⟨_, .inl (.inl upd_same)⟩, ?_⟩
      refine run_lcT ([128, 64, 32, 16, 8, 4, 2, 1].map V.int) (fun D i G' => G' D = some (.lst ((([128, 64, 32, 16, 8, 4, 2, 1].take i).map fun z : Int => z * 10 ^ 30).map V.int)) ∧ Ex (upd G p (.tup ([128, 64, 32, 16, 8, 4, 2, 1].map V.int))) G' ∧ upd G p (.tup ([128, 64, 32, 16, 8, 4, 2, 1].map V.int)) D = none) ?_ ?_ ?_ ?_
      · exact fun D hD => ⟨upd_same, Ex.new hD, hD⟩
      · rintro D i G' _ ⟨_, e, _⟩
        exact .inl (.inl (e _ _ upd_same))
      · rintro D i x G' hx ⟨hD, e, hfr⟩
        rw [List.getElem?_map] at hx
        obtain ⟨z, hz, rfl⟩ := Option.map_eq_some_iff.mp hx
        have hi8 : i < 8 := (List.getElem?_eq_some_iff.mp hz).1
        have hz1 : 1 ≤ z ∧ z ≤ 128 := by
          have := List.mem_of_getElem? hz
          simp only [List.mem_cons, List.not_mem_nil, or_false] at this
          omega
        walk_at "rd"
        refine ⟨rfl, go_yes (iteT ?_)⟩
        walk_at "rd"
        refine ⟨_, hD, ?_, ?_, Ex.mut e hfr, hfr⟩
        · rw [List.length_map, List.length_map, List.length_take]
          exact Nat.lt_of_lt_of_le (show _ < 100 by omega) (by decide)
        · rw [List.take_succ, hz, upd_same]
          simp
      rintro D G1 hDn ⟨hD, e1, _⟩
      have eG1 : Ex G G1 := (Ex.new hp).trans e1
      walk_at "rd"
      refine ⟨10 ^ 30, 8, rfl, by decide, by decide, by decide +kernel, fun z1 G2 e2 hz1 => ?_⟩
      walk_at "rd"
      intro t1 ht1
      walk_at "rd"
      refine ⟨.ref t1, 0, 0, 2 ^ 110, zig (10 ^ 30) 8, none, rfl, .tup (.inl upd_same) (.cons (hz1.ex (Ex.new ht1)) (.cons .non .nil)), zig_rad (by decide) (by decide +kernel) (fun _ h => nomatch h), by decide, fun r1 G3 hr1 e3 hr1a => ?_⟩
      have eD3 : Ex G1 G3 := (e2.trans (Ex.new ht1)).trans e3
      walk_at "rd"
      refine go_neT (.lst (.inl hr1a) (dq_opts _ _)) (.lst (.inl (eD3 _ _ hD)) (dq_ints _ _)) (by decide +kernel) (by decide +kernel) (by decide +kernel) ?_
      walk_at "rd"
      refine iteF ?_
      walk_at "rd"
      refine ⟨10 ^ 30, 8, rfl, by decide, by decide, by decide +kernel, fun z2 G4 e4 hz2 => ?_⟩
      walk_at "rd"
      intro t2 ht2
      walk_at "rd"
      refine ⟨.ref t2, 0, 257 * 10 ^ 30 + 1, 2 ^ 110, zig (10 ^ 30) 8, some (2 * 10 ^ 30), rfl, .tup (.inl upd_same) (.cons (hz2.ex (Ex.new ht2)) (.cons (.int _) .nil)), zig_rad (by decide) (by decide +kernel) (fun r h => by cases h; constructor <;> decide +kernel), by decide, fun G5 e5 => ?_⟩
      rw [show lastAll 0 (zig (10 ^ 30) 8) (some (2 * 10 ^ 30)) (257 * 10 ^ 30 + 1) = some 1 from by decide +kernel, show optV (some 1) = V.int 1 from rfl]
      refine go_c ?_
      walk_at "rd"
      refine iteNS rfl ?_
      walk_at "rd"
      intro a1 ha1
      walk_at "rd"
      intro a2 ha2
      walk_at "rd"
      intro a3 ha3
      walk_at "rd"
      intro a4 ha4
      walk_at "rd"
      have c2 := Ex.new (o := HO.tup (Stg.mix 2).vals) ha2
      have c3 := Ex.new (o := HO.lst [.ref a1, .ref a2]) ha3
      have c4 := Ex.new (o := HO.tup [.ref a3, optV (some 4)]) ha4
      have dr1 : Dq _ (.ref a4) (radD [.mix 5, .mix 2] (some 4)) := dq_two_stages (((c2.trans c3).trans c4) _ _ upd_same) ((c3.trans c4) _ _ upd_same) (c4 _ _ upd_same) upd_same
      refine ⟨.ref a4, 0, 11, 100, [.mix 5, .mix 2], some 4, rfl, dr1, ⟨by simp, by decide, fun s hs => ?_, by decide, fun r h => ?_⟩, by decide, fun p1 G6 hp1 e6 hp1a => ?_⟩
      · simp only [List.mem_cons, List.not_mem_nil, or_false] at hs
        rcases hs with rfl | rfl <;> exact ⟨by decide, by decide⟩
      · cases h; exact ⟨by decide, by decide⟩
      walk_at "rd"
      intro b1 hb1
      walk_at "rd"
      intro b2 hb2
      walk_at "rd"
      intro b3 hb3
      walk_at "rd"
      intro b4 hb4
      walk_at "rd"
      have f1 := Ex.new (o := HO.tup (Stg.dial 0).vals) hb1
      have f2 := Ex.new (o := HO.tup (Stg.pass 3 6).vals) hb2
      have f3 := Ex.new (o := HO.lst [.ref b1, .ref b2]) hb3
      have f4 := Ex.new (o := HO.tup [.ref b3, optV (some 7)]) hb4
      have dr2 : Dq _ (.ref b4) (radD [.dial 0, .pass 3 6] (some 7)) := dq_two_stages (((f2.trans f3).trans f4) _ _ upd_same) ((f3.trans f4) _ _ upd_same) (f4 _ _ upd_same) upd_same
      refine ⟨.ref b4, 10, 8, 100, [.dial 0, .pass 3 6], some 7, rfl, dr2, ⟨by simp, by decide, fun s hs => ?_, by decide, fun r h => ?_⟩, by decide, fun p2 G7 hp2 e7 hp2a => ?_⟩
      · simp only [List.mem_cons, List.not_mem_nil, or_false] at hs
        rcases hs with rfl | rfl
        · exact ⟨by decide, by decide⟩
        · exact ⟨by decide, by decide, by decide⟩
      · cases h; exact ⟨by decide, by decide⟩
      have e67 : Ex G6 G7 := (((f1.trans f2).trans f3).trans f4).trans e7
      walk_at "rd"
      intro tl htl
      have g1 := Ex.new (o := HO.lst [.ref p1, .ref p2]) htl
      walk_at "rd"
      intro q1 hq1
      have g2 := Ex.new (o := HO.lst ([6, 4, 0].map (fun z : Int => optV (some z)))) hq1
      walk_at "rd"
      intro q2 hq2
      have g3 := Ex.new (o := HO.lst ([some 2, none, none].map optV)) hq2
      walk_at "rd"
      intro q3 hq3
      have g4 := Ex.new (o := HO.lst [.ref q1, .ref q2]) hq3
      walk_at "rd"
      have k1 : ∀ {G' : Hp}, Ex G7 G' → DqAll G' [.ref p1, .ref p2] [.list ((allTones 0 [.mix 5, .mix 2] (some 4) 11).map optD), .list ((allTones 10 [.dial 0, .pass 3 6] (some 7) 8).map optD)] := fun e =>
        .cons (.lst (.inl (e _ _ (e67 _ _ hp1a))) (dq_opts _ _)) (.cons (.lst (.inl (e _ _ hp2a)) (dq_opts _ _)) .nil)
      refine go_neT (.lst (.inl (((g2.trans g3).trans g4) _ _ upd_same)) (k1 (((g1.trans g2).trans g3).trans g4))) (e := .list [.list [.int 6, .int 4, .int 0], .list [.int 2, .none, .none]]) (.lst (.inl upd_same) (.cons (.lst (.inl ((g3.trans g4) _ _ upd_same)) (.cons (.int _) (.cons (.int _) (.cons (.int _) .nil)))) (.cons (.lst (.inl (g4 _ _ upd_same)) (.cons (.int _) (.cons .non (.cons .non .nil)))) .nil))) (by decide +kernel) (by decide +kernel) (by decide +kernel) ?_
      walk_at "rd"
      refine iteF ?_
      walk_at "rd"
      intro tr htr
      refine ⟨tr, rfl, ⟨_, .inl (.inl upd_same)⟩, ?_⟩
      generalize hT : upd _ tr (HO.tup [V.int 7, V.int 2, V.non]) = T
      have hTr : T tr = some (.tup ([some 7, some 2, none].map optV)) := by rw [← hT]; exact upd_same
      refine run_lcT ([some 7, some 2, none].map optV) (fun D i G' => G' D = some (.lst ((([some 7, some 2, none].take i).map fun r : Option Int => lastAll 0 [.mix 0] r (10 ^ 30 - 1)).map optV)) ∧ Ex T G' ∧ T D = none) ?_ ?_ ?_ ?_
      · exact fun D hD => ⟨upd_same, Ex.new hD, hD⟩
      · rintro D i G' _ ⟨_, e, _⟩
        exact .inl (.inl (e _ _ hTr))
      · rintro D i x G' hx ⟨hD, e, hfr⟩
        rw [List.getElem?_map] at hx
        obtain ⟨r, hz, rfl⟩ := Option.map_eq_some_iff.mp hx
        have hi3 : i < 3 := (List.getElem?_eq_some_iff.mp hz).1
        have hr2 : ∀ q, r = some q → 2 ≤ q ∧ q ≤ 100 := by
          have := List.mem_of_getElem? hz
          simp only [List.mem_cons, List.not_mem_nil, or_false] at this
          rcases this with rfl | rfl | rfl
          · intro q h; cases h; exact ⟨by decide, by decide⟩
          · intro q h; cases h; exact ⟨by decide, by decide⟩
          · intro q h; cases h
        walk_at "rd"
        refine ⟨rfl, go_yes (iteT ?_)⟩
        walk_at "rd"
        intro s1 hs1
        walk_at "rd"
        intro s3 hs3
        walk_at "rd"
        intro s4 hs4
        walk_at "rd"
        have c1 := Ex.new (o := HO.tup (Stg.mix 0).vals) hs1
        have c3 := Ex.new (o := HO.lst [.ref s1]) hs3
        have c4 := Ex.new (o := HO.tup [.ref s3, optV r]) hs4
        have dr : Dq _ (.ref s4) (radD [.mix 0] r) := dq_one_stage ((c3.trans c4) _ _ upd_same) (c4 _ _ upd_same) upd_same
        refine ⟨.ref s4, 0, 10 ^ 30 - 1, 100, [.mix 0], r, rfl, dr, ⟨by simp, by decide, fun s hs => ?_, by decide, hr2⟩, by decide +kernel, fun G5 e5 => ?_⟩
        · rw [List.mem_singleton.mp hs]
          exact ⟨by decide, by decide⟩
        · have e6 := ((c1.trans c3).trans c4).trans e5
          refine ⟨_, e6 _ _ hD, ?_, ?_, Ex.mut (e.trans e6) hfr, hfr⟩
          · rw [List.length_map, List.length_map, List.length_take]
            exact Nat.lt_of_lt_of_le (show _ < 100 by omega) (by decide)
          · rw [List.take_succ, hz, upd_same]
            simp
      rintro D2 G9 hD2n ⟨hD2, e9, _⟩
      walk_at "rd"
      intro w1 hw1
      walk_at "rd"
      refine go_eqT (.lst (.inl (Ex.new hw1 _ _ hD2)) (dq_opts _ _)) (e := .list [.int 0, .int 1, .int (10 ^ 30 - 1)]) (.lst (.inl upd_same) (.cons (.int _) (.cons (.int _) (.cons (.int _) .nil)))) (by decide +kernel) (by decide +kernel) (by decide +kernel) ?_
      exact k _
end
end Kx

set_option Elab.async false
set_option linter.all false
set_option maxRecDepth 100000
set_option maxHeartbeats 2000000
namespace Kx
open PySem PySem.Spec PyProof.Rows L2 HX
open Evl (Ex)
theorem vals_rev3 {zs : List V} {ws : List Value} (h : Vals zs ws) : Vals (rev3 zs) (rev3 ws) := by
  cases h with
  | nil => exact .nil
  | cons a h => cases h with
    | nil => exact .cons a .nil
    | cons b h => cases h with
      | nil => exact .cons a (.cons b .nil)
      | cons c h => cases h with
        | nil => exact .cons c (.cons b (.cons a .nil))
        | cons d h => exact .cons a (.cons b (.cons c (.cons d h)))
theorem all_mk {P : Program} {w : World} {K : PySem.W.Frag} {h : Heap} {mg : Str → Option Value} {fa f1 f2 f3 f4 f5 f6 f7 f8 f9 f10 f11 f12 f13 f14 f15 f16 f17 f18 f19 f20 f21 : Addr} (X : K.In h) (G : h.Ns mainGlobals mg) (hfa : mg "law" = some (.ref fa))
    {od1 an1 od2 an2 od3 an3 od4 an4 od5 an5 od6 an6 od7 an7 od8 an8 od9 an9 od10 an10 od11 an11 od12 an12 od13 an13 od14 an14 od15 an15 od16 an16 od17 an17 od18 an18 od19 an19 od20 an20 od21 an21 : Option Addr} {sl1 sl2 sl3 sl4 sl5 sl6 sl7 sl8 sl9 sl10 sl11 sl12 sl13 sl14 sl15 sl16 sl17 sl18 sl19 sl20 sl21 : Array (Option Value)} {oc1 kV1 dc1 pm1 cd1 ct1 oc2 kV2 dc2 pm2 cd2 ct2 oc3 kV3 dc3 pm3 cd3 ct3 oc4 kV4 dc4 pm4 cd4 ct4 oc5 kV5 dc5 pm5 cd5 ct5 oc6 kV6 dc6 pm6 cd6 ct6 oc7 kV7 dc7 pm7 cd7 ct7 oc8 kV8 dc8 pm8 cd8 ct8 oc9 kV9 dc9 pm9 cd9 ct9 oc10 kV10 dc10 pm10 cd10 ct10 oc11 kV11 dc11 pm11 cd11 ct11 oc12 kV12 dc12 pm12 cd12 ct12 oc13 kV13 dc13 pm13 cd13 ct13 oc14 kV14 dc14 pm14 cd14 ct14 oc15 kV15 dc15 pm15 cd15 ct15 oc16 kV16 dc16 pm16 cd16 ct16 oc17 kV17 dc17 pm17 cd17 ct17 oc18 kV18 dc18 pm18 cd18 ct18 oc19 kV19 dc19 pm19 cd19 ct19 oc20 kV20 dc20 pm20 cd20 ct20 oc21 kV21 dc21 pm21 cd21 ct21 : Value} {t1 t2 : Tok}
    (a1 : PySem.W.nsIn K mainGlobals "_law_jar" = some (some (.ref f1))) (l1 : K.lookup f1 = some ⟨oc1, od1, .func (PySem.W.fnOf "_law_jar" "_law_jar" (defArgs s__law_jar) (defBody s__law_jar) (defScope s__law_jar) .none kV1 dc1 pm1 an1 cd1 ct1), sl1⟩) (c1 : PySem.W.codeIn K cd1 "_law_jar" = true) (k1 : PySem.W.keepIn K (.ref f1) = true)
    (a2 : PySem.W.nsIn K mainGlobals "_law_pick" = some (some (.ref f2))) (l2 : K.lookup f2 = some ⟨oc2, od2, .func (PySem.W.fnOf "_law_pick" "_law_pick" (defArgs s__law_pick) (defBody s__law_pick) (defScope s__law_pick) .none kV2 dc2 pm2 an2 cd2 ct2), sl2⟩) (c2 : PySem.W.codeIn K cd2 "_law_pick" = true) (k2 : PySem.W.keepIn K (.ref f2) = true)
    (a3 : PySem.W.nsIn K mainGlobals "_law_radio" = some (some (.ref f3))) (l3 : K.lookup f3 = some ⟨oc3, od3, .func (PySem.W.fnOf "_law_radio" "_law_radio" (defArgs s__law_radio) (defBody s__law_radio) (defScope s__law_radio) .none kV3 dc3 pm3 an3 cd3 ct3), sl3⟩) (c3 : PySem.W.codeIn K cd3 "_law_radio" = true) (k3 : PySem.W.keepIn K (.ref f3) = true)
    (a4 : PySem.W.nsIn K mainGlobals "is_integer" = some (some (.ref f4))) (l4 : K.lookup f4 = some ⟨oc4, od4, .func (PySem.W.fnOf "is_integer" "is_integer" (defArgs s_is_integer) (defBody s_is_integer) (defScope s_is_integer) .none kV4 dc4 pm4 an4 cd4 ct4), sl4⟩) (c4 : PySem.W.codeIn K cd4 "is_integer" = true) (k4 : PySem.W.keepIn K (.ref f4) = true)
    (a5 : PySem.W.nsIn K mainGlobals "is_natural" = some (some (.ref f5))) (l5 : K.lookup f5 = some ⟨oc5, od5, .func (PySem.W.fnOf "is_natural" "is_natural" (defArgs s_is_natural) (defBody s_is_natural) (defScope s_is_natural) .none kV5 dc5 pm5 an5 cd5 ct5), sl5⟩) (c5 : PySem.W.codeIn K cd5 "is_natural" = true) (k5 : PySem.W.keepIn K (.ref f5) = true)
    (a6 : PySem.W.nsIn K mainGlobals "is_band" = some (some (.ref f6))) (l6 : K.lookup f6 = some ⟨oc6, od6, .func (PySem.W.fnOf "is_band" "is_band" (defArgs s_is_band) (defBody s_is_band) (defScope s_is_band) .none kV6 dc6 pm6 an6 cd6 ct6), sl6⟩) (c6 : PySem.W.codeIn K cd6 "is_band" = true) (k6 : PySem.W.keepIn K (.ref f6) = true)
    (a7 : PySem.W.nsIn K mainGlobals "is_stage" = some (some (.ref f7))) (l7 : K.lookup f7 = some ⟨oc7, od7, .func (PySem.W.fnOf "is_stage" "is_stage" (defArgs s_is_stage) (defBody s_is_stage) (defScope s_is_stage) .none kV7 dc7 pm7 an7 cd7 ct7), sl7⟩) (c7 : PySem.W.codeIn K cd7 "is_stage" = true) (k7 : PySem.W.keepIn K (.ref f7) = true)
    (a8 : PySem.W.nsIn K mainGlobals "is_rate" = some (some (.ref f8))) (l8 : K.lookup f8 = some ⟨oc8, od8, .func (PySem.W.fnOf "is_rate" "is_rate" (defArgs s_is_rate) (defBody s_is_rate) (defScope s_is_rate) .none kV8 dc8 pm8 an8 cd8 ct8), sl8⟩) (c8 : PySem.W.codeIn K cd8 "is_rate" = true) (k8 : PySem.W.keepIn K (.ref f8) = true)
    (a9 : PySem.W.nsIn K mainGlobals "_is_frame" = some (some (.ref f9))) (l9 : K.lookup f9 = some ⟨oc9, od9, .func (PySem.W.fnOf "_is_frame" "_is_frame" (defArgs s__is_frame) (defBody s__is_frame) (defScope s__is_frame) .none kV9 dc9 pm9 an9 cd9 ct9), sl9⟩) (c9 : PySem.W.codeIn K cd9 "_is_frame" = true) (k9 : PySem.W.keepIn K (.ref f9) = true)
    (a10 : PySem.W.nsIn K mainGlobals "check_dial" = some (some (.ref f10))) (l10 : K.lookup f10 = some ⟨oc10, od10, .func (PySem.W.fnOf "check_dial" "check_dial" (defArgs s_check_dial) (defBody s_check_dial) (defScope s_check_dial) .none kV10 dc10 pm10 an10 cd10 ct10), sl10⟩) (c10 : PySem.W.codeIn K cd10 "check_dial" = true) (k10 : PySem.W.keepIn K (.ref f10) = true)
    (a11 : PySem.W.nsIn K mainGlobals "check_signal" = some (some (.ref f11))) (l11 : K.lookup f11 = some ⟨oc11, od11, .func (PySem.W.fnOf "check_signal" "check_signal" (defArgs s_check_signal) (defBody s_check_signal) (defScope s_check_signal) .none kV11 dc11 pm11 an11 cd11 ct11), sl11⟩) (c11 : PySem.W.codeIn K cd11 "check_signal" = true) (k11 : PySem.W.keepIn K (.ref f11) = true)
    (a12 : PySem.W.nsIn K mainGlobals "check_receiver" = some (some (.ref f12))) (l12 : K.lookup f12 = some ⟨oc12, od12, .func (PySem.W.fnOf "check_receiver" "check_receiver" (defArgs s_check_receiver) (defBody s_check_receiver) (defScope s_check_receiver) .none kV12 dc12 pm12 an12 cd12 ct12), sl12⟩) (c12 : PySem.W.codeIn K cd12 "check_receiver" = true) (k12 : PySem.W.keepIn K (.ref f12) = true)
    (a13 : PySem.W.nsIn K mainGlobals "mixing_tone" = some (some (.ref f13))) (l13 : K.lookup f13 = some ⟨oc13, od13, .func (PySem.W.fnOf "mixing_tone" "mixing_tone" (defArgs s_mixing_tone) (defBody s_mixing_tone) (defScope s_mixing_tone) .none kV13 dc13 pm13 an13 cd13 ct13), sl13⟩) (c13 : PySem.W.codeIn K cd13 "mixing_tone" = true) (k13 : PySem.W.keepIn K (.ref f13) = true)
    (a14 : PySem.W.nsIn K mainGlobals "behind_stage" = some (some (.ref f14))) (l14 : K.lookup f14 = some ⟨oc14, od14, .func (PySem.W.fnOf "behind_stage" "behind_stage" (defArgs s_behind_stage) (defBody s_behind_stage) (defScope s_behind_stage) .none kV14 dc14 pm14 an14 cd14 ct14), sl14⟩) (c14 : PySem.W.codeIn K cd14 "behind_stage" = true) (k14 : PySem.W.keepIn K (.ref f14) = true)
    (a15 : PySem.W.nsIn K mainGlobals "behind_sampler" = some (some (.ref f15))) (l15 : K.lookup f15 = some ⟨oc15, od15, .func (PySem.W.fnOf "behind_sampler" "behind_sampler" (defArgs s_behind_sampler) (defBody s_behind_sampler) (defScope s_behind_sampler) .none kV15 dc15 pm15 an15 cd15 ct15), sl15⟩) (c15 : PySem.W.codeIn K cd15 "behind_sampler" = true) (k15 : PySem.W.keepIn K (.ref f15) = true)
    (a16 : PySem.W.nsIn K mainGlobals "stage_tones" = some (some (.ref f16))) (l16 : K.lookup f16 = some ⟨oc16, od16, .func (PySem.W.fnOf "stage_tones" "stage_tones" (defArgs s_stage_tones) (defBody s_stage_tones) (defScope s_stage_tones) .none kV16 dc16 pm16 an16 cd16 ct16), sl16⟩) (c16 : PySem.W.codeIn K cd16 "stage_tones" = true) (k16 : PySem.W.keepIn K (.ref f16) = true)
    (a17 : PySem.W.nsIn K mainGlobals "tone_at" = some (some (.ref f17))) (l17 : K.lookup f17 = some ⟨oc17, od17, .func (PySem.W.fnOf "tone_at" "tone_at" (defArgs s_tone_at) (defBody s_tone_at) (defScope s_tone_at) .none kV17 dc17 pm17 an17 cd17 ct17), sl17⟩) (c17 : PySem.W.codeIn K cd17 "tone_at" = true) (k17 : PySem.W.keepIn K (.ref f17) = true)
    (a18 : PySem.W.nsIn K mainGlobals "_law_parts" = some (some (.ref f18))) (l18 : K.lookup f18 = some ⟨oc18, od18, .func (PySem.W.fnOf "_law_parts" "_law_parts" (defArgs s__law_parts) (defBody s__law_parts) (defScope s__law_parts) .none kV18 dc18 pm18 an18 cd18 ct18), sl18⟩) (c18 : PySem.W.codeIn K cd18 "_law_parts" = true) (k18 : PySem.W.keepIn K (.ref f18) = true)
    (a19 : PySem.W.nsIn K mainGlobals "_law_right" = some (some (.ref f19))) (l19 : K.lookup f19 = some ⟨oc19, od19, .func (PySem.W.fnOf "_law_right" "_law_right" (defArgs s__law_right) (defBody s__law_right) (defScope s__law_right) .none kV19 dc19 pm19 an19 cd19 ct19), sl19⟩) (c19 : PySem.W.codeIn K cd19 "_law_right" = true) (k19 : PySem.W.keepIn K (.ref f19) = true)
    (a20 : PySem.W.nsIn K mainGlobals "_law_zigzag" = some (some (.ref f20))) (l20 : K.lookup f20 = some ⟨oc20, od20, .func (PySem.W.fnOf "_law_zigzag" "_law_zigzag" (defArgs s__law_zigzag) (defBody s__law_zigzag) (defScope s__law_zigzag) .none kV20 dc20 pm20 an20 cd20 ct20), sl20⟩) (c20 : PySem.W.codeIn K cd20 "_law_zigzag" = true) (k20 : PySem.W.keepIn K (.ref f20) = true)
    (a21 : PySem.W.nsIn K mainGlobals "law" = some (some (.ref f21))) (l21 : K.lookup f21 = some ⟨oc21, od21, .func (PySem.W.fnOf "law" "law" (defArgs s_law) (defBody s_law) (defScope s_law) .none kV21 dc21 pm21 an21 cd21 ct21), sl21⟩) (c21 : PySem.W.codeIn K cd21 "law" = true) (k21 : PySem.W.keepIn K (.ref f21) = true)
    (z1 : PySem.W.nsIn K mainGlobals "len" = some none)
    (z2 : PySem.W.nsIn K mainGlobals "max" = some none)
    (z3 : PySem.W.nsIn K mainGlobals "abs" = some none)
    (z4 : PySem.W.nsIn K mainGlobals "int" = some none)
    (z5 : PySem.W.nsIn K mainGlobals "range" = some none)
    (z6 : PySem.W.nsIn K mainGlobals "isinstance" = some none)
    (z7 : PySem.W.nsIn K mainGlobals "bool" = some none)
    (z8 : PySem.W.nsIn K mainGlobals "tuple" = some none)
    (z9 : PySem.W.nsIn K mainGlobals "str" = some none)
    (z10 : PySem.W.nsIn K mainGlobals "list" = some none)
    (z11 : PySem.W.nsIn K mainGlobals "enumerate" = some none)
    (z12 : PySem.W.nsIn K mainGlobals "min" = some none)
    (z13 : PySem.W.nsIn K mainGlobals "repr" = some none)
    (y1 : PySem.W.nsIn K mainGlobals "LEAST_RATE" = some (some (.int 2 t1)))
    (y2 : PySem.W.nsIn K mainGlobals "MOST_STAGES" = some (some (.int 8 t2))) :
    ∃ fd : FuncData, (∀ (s : Shared) (v : Value), BindsTo s fd ⟨[v], []⟩ [("script", v)]) ∧ ∀ base : Heap, K.In base → base.Ns mainGlobals mg → FnG P w K mg base CX0 9 fa fd ["script"] (spLaw K) := by
  have e := hfa.symm.trans (PySem.W.mg_of X G a21)
  cases e
  have m_len := PySem.W.mg_none_of X G z1
  have m_max := PySem.W.mg_none_of X G z2
  have m_abs := PySem.W.mg_none_of X G z3
  have m_int := PySem.W.mg_none_of X G z4
  have m_range := PySem.W.mg_none_of X G z5
  have m_isinstance := PySem.W.mg_none_of X G z6
  have m_bool := PySem.W.mg_none_of X G z7
  have m_tuple := PySem.W.mg_none_of X G z8
  have m_str := PySem.W.mg_none_of X G z9
  have m_list := PySem.W.mg_none_of X G z10
  have m_enumerate := PySem.W.mg_none_of X G z11
  have m_min := PySem.W.mg_none_of X G z12
  have m_repr := PySem.W.mg_none_of X G z13
  have g_LEAST_RATE := PySem.W.mg_of X G y1
  have g_MOST_STAGES := PySem.W.mg_of X G y2
  refine ⟨PySem.W.fnOf "law" "law" (defArgs s_law) (defBody s_law) (defScope s_law) .none kV21 dc21 pm21 an21 cd21 ct21, fun s v => .of_eq rfl, fun base _ _ => ?_⟩
  have F1 := fun_mk (st := s__law_jar) l1 c1 k1
  have h__law_jar : Has P w K mg base 1 "_law_jar" (spJar K) := ⟨f1, _, ["script", "at"], ok_jar (P := P) (w := w) (mg := mg) (base := base) F1 m_len m_max m_abs m_int, PySem.W.mg_of X G a1, k1, F1.binds (ps := ["script", "at"]) fun _ _ _ _ _ _ us hl => match us, hl with | [_, _], _ => rfl⟩
  have F2 := fun_mk (st := s__law_pick) l2 c2 k2
  have h__law_pick : Has P w K mg base 1 "_law_pick" spPick := ⟨f2, _, ["jar", "bound"], ok_pick (P := P) (w := w) (mg := mg) (base := base) F2 m_int, PySem.W.mg_of X G a2, k2, F2.binds (ps := ["jar", "bound"]) fun _ _ _ _ _ _ us hl => match us, hl with | [_, _], _ => rfl⟩
  have F3 := fun_mk (st := s__law_radio) l3 c3 k3
  have h__law_radio : Has P w K mg base 2 "_law_radio" spRadio := ⟨f3, _, ["jar", "most", "far"], ok_radio (P := P) (w := w) (mg := mg) (base := base) F3 m_range h__law_pick, PySem.W.mg_of X G a3, k3, F3.binds (ps := ["jar", "most", "far"]) fun _ _ _ _ _ _ us hl => match us, hl with | [_, _, _], _ => rfl⟩
  have F4 := fun_mk (st := s_is_integer) l4 c4 k4
  have h_is_integer : Has P w K mg base 1 "is_integer" (spLook isInt) := ⟨f4, _, ["value"], ok_is_integer (P := P) (w := w) (mg := mg) (base := base) F4 m_isinstance m_int m_bool, PySem.W.mg_of X G a4, k4, F4.binds (ps := ["value"]) fun _ _ _ _ _ _ us hl => match us, hl with | [_], _ => rfl⟩
  have F5 := fun_mk (st := s_is_natural) l5 c5 k5
  have h_is_natural : Has P w K mg base 2 "is_natural" (spLook isNat) := ⟨f5, _, ["value"], ok_is_natural (P := P) (w := w) (mg := mg) (base := base) F5 h_is_integer, PySem.W.mg_of X G a5, k5, F5.binds (ps := ["value"]) fun _ _ _ _ _ _ us hl => match us, hl with | [_], _ => rfl⟩
  have F6 := fun_mk (st := s_is_band) l6 c6 k6
  have h_is_band : Has P w K mg base 3 "is_band" (spLook isBand) := ⟨f6, _, ["value"], ok_is_band (P := P) (w := w) (mg := mg) (base := base) F6 m_isinstance m_tuple m_len h_is_natural, PySem.W.mg_of X G a6, k6, F6.binds (ps := ["value"]) fun _ _ _ _ _ _ us hl => match us, hl with | [_], _ => rfl⟩
  have F7 := fun_mk (st := s_is_stage) l7 c7 k7
  have h_is_stage : Has P w K mg base 4 "is_stage" (spLook isStage) := ⟨f7, _, ["value"], ok_is_stage (P := P) (w := w) (mg := mg) (base := base) F7 m_isinstance m_tuple m_str m_len h_is_integer h_is_natural h_is_band, PySem.W.mg_of X G a7, k7, F7.binds (ps := ["value"]) fun _ _ _ _ _ _ us hl => match us, hl with | [_], _ => rfl⟩
  have F8 := fun_mk (st := s_is_rate) l8 c8 k8
  have h_is_rate : Has P w K mg base 2 "is_rate" (spLook isRate) := ⟨f8, _, ["value"], ok_is_rate (P := P) (w := w) (mg := mg) (base := base) F8 g_LEAST_RATE h_is_integer, PySem.W.mg_of X G a8, k8, F8.binds (ps := ["value"]) fun _ _ _ _ _ _ us hl => match us, hl with | [_], _ => rfl⟩
  have F9 := fun_mk (st := s__is_frame) l9 c9 k9
  have h__is_frame : Has P w K mg base 1 "_is_frame" (spLook isFrame) := ⟨f9, _, ["value"], ok_is_frame (P := P) (w := w) (mg := mg) (base := base) F9 m_isinstance m_tuple m_list m_len g_MOST_STAGES, PySem.W.mg_of X G a9, k9, F9.binds (ps := ["value"]) fun _ _ _ _ _ _ us hl => match us, hl with | [_], _ => rfl⟩
  have F10 := fun_mk (st := s_check_dial) l10 c10 k10
  have h_check_dial : Has P w K mg base 2 "check_dial" (spCheck isInt) := ⟨f10, _, ["dial"], ok_check_dial (P := P) (w := w) (mg := mg) (base := base) F10 h_is_integer, PySem.W.mg_of X G a10, k10, F10.binds (ps := ["dial"]) fun _ _ _ _ _ _ us hl => match us, hl with | [_], _ => rfl⟩
  have F11 := fun_mk (st := s_check_signal) l11 c11 k11
  have h_check_signal : Has P w K mg base 3 "check_signal" (spCheck isNat) := ⟨f11, _, ["signal"], ok_check_signal (P := P) (w := w) (mg := mg) (base := base) F11 h_is_natural, PySem.W.mg_of X G a11, k11, F11.binds (ps := ["signal"]) fun _ _ _ _ _ _ us hl => match us, hl with | [_], _ => rfl⟩
  have F12 := fun_mk (st := s_check_receiver) l12 c12 k12
  have h_check_receiver : Has P w K mg base 5 "check_receiver" spRecv := ⟨f12, _, ["receiver"], ok_check_receiver (P := P) (w := w) (mg := mg) (base := base) F12 m_enumerate m_len h__is_frame h_is_stage h_is_rate, PySem.W.mg_of X G a12, k12, F12.binds (ps := ["receiver"]) fun _ _ _ _ _ _ us hl => match us, hl with | [_], _ => rfl⟩
  have F13 := fun_mk (st := s_mixing_tone) l13 c13 k13
  have h_mixing_tone : Has P w K mg base 1 "mixing_tone" spMixing := ⟨f13, _, ["stage", "dial"], ok_mixing_tone (P := P) (w := w) (mg := mg) (base := base) F13 , PySem.W.mg_of X G a13, k13, F13.binds (ps := ["stage", "dial"]) fun _ _ _ _ _ _ us hl => match us, hl with | [_, _], _ => rfl⟩
  have F14 := fun_mk (st := s_behind_stage) l14 c14 k14
  have h_behind_stage : Has P w K mg base 2 "behind_stage" spBehind := ⟨f14, _, ["stage", "dial", "number"], ok_behind_stage (P := P) (w := w) (mg := mg) (base := base) F14 m_abs h_mixing_tone, PySem.W.mg_of X G a14, k14, F14.binds (ps := ["stage", "dial", "number"]) fun _ _ _ _ _ _ us hl => match us, hl with | [_, _, _], _ => rfl⟩
  have F15 := fun_mk (st := s_behind_sampler) l15 c15 k15
  have h_behind_sampler : Has P w K mg base 1 "behind_sampler" spSampler := ⟨f15, _, ["rate", "number"], ok_behind_sampler (P := P) (w := w) (mg := mg) (base := base) F15 m_min, PySem.W.mg_of X G a15, k15, F15.binds (ps := ["rate", "number"]) fun _ _ _ _ _ _ us hl => match us, hl with | [_, _], _ => rfl⟩
  have F16 := fun_mk (st := s_stage_tones) l16 c16 k16
  have h_stage_tones : Has P w K mg base 6 "stage_tones" spTones := ⟨f16, _, ["receiver", "dial", "signal"], ok_stage_tones (P := P) (w := w) (mg := mg) (base := base) F16 h_check_receiver h_check_dial h_check_signal h_behind_stage h_behind_sampler, PySem.W.mg_of X G a16, k16, F16.binds (ps := ["receiver", "dial", "signal"]) fun _ _ _ _ _ _ us hl => match us, hl with | [_, _, _], _ => rfl⟩
  have h_stage_tones_kw : HasK P w K mg base 6 "stage_tones" ["signal", "dial", "receiver"] rev3 rev3 spTones := ⟨f16, _, ["receiver", "dial", "signal"], ok_stage_tones (P := P) (w := w) (mg := mg) (base := base) F16 h_check_receiver h_check_dial h_check_signal h_behind_stage h_behind_sampler, PySem.W.mg_of X G a16, k16, ⟨fun s us ws _ q1 q2 => match us, ws, q1, q2 with | [], [_, _, _], _, _ => .of_eq rfl, fun _ r2 => vals_rev3 r2⟩⟩
  have F17 := fun_mk (st := s_tone_at) l17 c17 k17
  have h_tone_at : Has P w K mg base 7 "tone_at" spTone := ⟨f17, _, ["receiver", "dial", "signal"], ok_tone_at (P := P) (w := w) (mg := mg) (base := base) F17 h_stage_tones, PySem.W.mg_of X G a17, k17, F17.binds (ps := ["receiver", "dial", "signal"]) fun _ _ _ _ _ _ us hl => match us, hl with | [_, _, _], _ => rfl⟩
  have h_tone_at_kw : HasK P w K mg base 7 "tone_at" ["signal", "dial", "receiver"] rev3 rev3 spTone := ⟨f17, _, ["receiver", "dial", "signal"], ok_tone_at (P := P) (w := w) (mg := mg) (base := base) F17 h_stage_tones, PySem.W.mg_of X G a17, k17, ⟨fun s us ws _ q1 q2 => match us, ws, q1, q2 with | [], [_, _, _], _, _ => .of_eq rfl, fun _ r2 => vals_rev3 r2⟩⟩
  have F18 := fun_mk (st := s__law_parts) l18 c18 k18
  have h__law_parts : Has P w K mg base 1 "_law_parts" spParts := ⟨f18, _, ["radio", "tuned", "wave"], ok_law_parts (P := P) (w := w) (mg := mg) (base := base) F18 m_max m_min m_int, PySem.W.mg_of X G a18, k18, F18.binds (ps := ["radio", "tuned", "wave"]) fun _ _ _ _ _ _ us hl => match us, hl with | [_, _, _], _ => rfl⟩
  have F19 := fun_mk (st := s__law_right) l19 c19 k19
  have h__law_right : HasG P w K mg base 8 "_law_right" spRight := ⟨f19, _, ["radio", "tuned", "wave"], ok_law_right (P := P) (w := w) (mg := mg) (base := base) F19 m_repr m_range m_list h__law_parts h_stage_tones h_tone_at h_stage_tones_kw h_tone_at_kw, PySem.W.mg_of X G a19, k19, F19.binds (ps := ["radio", "tuned", "wave"]) fun _ _ _ _ _ _ us hl => match us, hl with | [_, _, _], _ => rfl⟩
  have F20 := fun_mk (st := s__law_zigzag) l20 c20 k20
  have h__law_zigzag : Has P w K mg base 1 "_law_zigzag" spZig := ⟨f20, _, ["wide", "count"], ok_law_zigzag (P := P) (w := w) (mg := mg) (base := base) F20 m_range, PySem.W.mg_of X G a20, k20, F20.binds (ps := ["wide", "count"]) fun _ _ _ _ _ _ us hl => match us, hl with | [_, _], _ => rfl⟩
  have F21 := fun_mk (st := s_law) l21 c21 k21
  exact ok_law (P := P) (w := w) (mg := mg) (base := base) F21 m_range m_max m_min m_len m_abs h__law_jar h__law_pick h__law_radio h__law_right h__law_zigzag h_stage_tones h_tone_at
theorem walk {l : PySem.W.OpenLaw} {q : Program} {loose : List Str} {XP : (Str → Option Value) → Heap → Prop} {YP : World → Heap → Prop} {d : DefRec} {K : Params → PySem.W.Frag} (hn : l.most = some 63) (hdf : d.params.defaults = [])
    (hY : ∀ (w : World) (h : Heap), YP w h → (K w.params).In h)
    (F : ∀ (w : World) (mg : Str → Option Value) (fa : Addr) (h : Heap), (K w.params).In h → h.Ns mainGlobals mg → mg d.name = some (.ref fa) →
      ∃ fd : FuncData, (∀ (s : Shared) (u : Value), BindsTo s fd ⟨[u], []⟩ [("script", u)]) ∧ ∀ base : Heap, (K w.params).In base → base.Ns mainGlobals mg → FnG l.prog w (K w.params) mg base CX0 9 fa fd ["script"] (spLaw (K w.params))) :
    PySem.W.WalkO q loose XP YP l.row.toRowW d [] (fun f vs => PySem.call f vs) :=
  walk_G (n := 63) (k := 9) (x := "script") (sp := fun K => spLaw K) hn (by decide) hdf ⟨rfl, by decide, by decide⟩ hY F (fun _ _ a ns hl _ hS => ⟨a, ns, rfl, Nat.le_trans hl (by decide), hS, fun _ => rfl⟩)
end Kx

open PySem PySem.W PyProof.Rows
set_option maxRecDepth 100000 in
set_option maxHeartbeats 0 in
theorem PySem.Challenge.cw_imagetones_k02_tones_by_hand_holds : PySem.Challenge.rw_imagetones_k02_tones_by_hand.Holds := by
  w_on; o_law; k_head; (case hw => w_witness2)
  k_fill
  refine Kx.walk (l := PySem.Challenge.rw_imagetones_k02_tones_by_hand) rfl rfl (fun w h Y => PySem.W.kIn_of Y) ?F
  case F =>
    intro w mg fa h KX G hmg
    refine' Kx.all_mk KX G hmg ?a1 ?l1 ?c1 ?k1 ?a2 ?l2 ?c2 ?k2 ?a3 ?l3 ?c3 ?k3 ?a4 ?l4 ?c4 ?k4 ?a5 ?l5 ?c5 ?k5 ?a6 ?l6 ?c6 ?k6 ?a7 ?l7 ?c7 ?k7 ?a8 ?l8 ?c8 ?k8 ?a9 ?l9 ?c9 ?k9 ?a10 ?l10 ?c10 ?k10 ?a11 ?l11 ?c11 ?k11 ?a12 ?l12 ?c12 ?k12 ?a13 ?l13 ?c13 ?k13 ?a14 ?l14 ?c14 ?k14 ?a15 ?l15 ?c15 ?k15 ?a16 ?l16 ?c16 ?k16 ?a17 ?l17 ?c17 ?k17 ?a18 ?l18 ?c18 ?k18 ?a19 ?l19 ?c19 ?k19 ?a20 ?l20 ?c20 ?k20 ?a21 ?l21 ?c21 ?k21 ?z1 ?z2 ?z3 ?z4 ?z5 ?z6 ?z7 ?z8 ?z9 ?z10 ?z11 ?z12 ?z13 ?y1 ?y2
    (case a1 => k_is)
    (case l1 => k_is)
    (case c1 => k_is)
    (case k1 => k_is)
    (case a2 => k_is)
    (case l2 => k_is)
    (case c2 => k_is)
    (case k2 => k_is)
    (case a3 => k_is)
    (case l3 => k_is)
    (case c3 => k_is)
    (case k3 => k_is)
    (case a4 => k_is)
    (case l4 => k_is)
    (case c4 => k_is)
    (case k4 => k_is)
    (case a5 => k_is)
    (case l5 => k_is)
    (case c5 => k_is)
    (case k5 => k_is)
    (case a6 => k_is)
    (case l6 => k_is)
    (case c6 => k_is)
    (case k6 => k_is)
    (case a7 => k_is)
    (case l7 => k_is)
    (case c7 => k_is)
    (case k7 => k_is)
    (case a8 => k_is)
    (case l8 => k_is)
    (case c8 => k_is)
    (case k8 => k_is)
    (case a9 => k_is)
    (case l9 => k_is)
    (case c9 => k_is)
    (case k9 => k_is)
    (case a10 => k_is)
    (case l10 => k_is)
    (case c10 => k_is)
    (case k10 => k_is)
    (case a11 => k_is)
    (case l11 => k_is)
    (case c11 => k_is)
    (case k11 => k_is)
    (case a12 => k_is)
    (case l12 => k_is)
    (case c12 => k_is)
    (case k12 => k_is)
    (case a13 => k_is)
    (case l13 => k_is)
    (case c13 => k_is)
    (case k13 => k_is)
    (case a14 => k_is)
    (case l14 => k_is)
    (case c14 => k_is)
    (case k14 => k_is)
    (case a15 => k_is)
    (case l15 => k_is)
    (case c15 => k_is)
    (case k15 => k_is)
    (case a16 => k_is)
    (case l16 => k_is)
    (case c16 => k_is)
    (case k16 => k_is)
    (case a17 => k_is)
    (case l17 => k_is)
    (case c17 => k_is)
    (case k17 => k_is)
    (case a18 => k_is)
    (case l18 => k_is)
    (case c18 => k_is)
    (case k18 => k_is)
    (case a19 => k_is)
    (case l19 => k_is)
    (case c19 => k_is)
    (case k19 => k_is)
    (case a20 => k_is)
    (case l20 => k_is)
    (case c20 => k_is)
    (case k20 => k_is)
    (case a21 => k_is)
    (case l21 => k_is)
    (case c21 => k_is)
    (case k21 => k_is)
    (case z1 => k_is)
    (case z2 => k_is)
    (case z3 => k_is)
    (case z4 => k_is)
    (case z5 => k_is)
    (case z6 => k_is)
    (case z7 => k_is)
    (case z8 => k_is)
    (case z9 => k_is)
    (case z10 => k_is)
    (case z11 => k_is)
    (case z12 => k_is)
    (case z13 => k_is)
    (case y1 => k_is)
    (case y2 => k_is)
