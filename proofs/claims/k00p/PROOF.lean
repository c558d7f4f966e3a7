import PyProof.Rows.All
import HandS.ForMost
import HandS.ForExc
import HandS.RaiseMore
import HandS.IsInst
import HandS.Wide
import PyProof.ReprRoads
import HandS.TupMul
import HandS.Codes
import KE.KExcInit
import HandS.TupAny
import HandS.Style
import HandS.TupLe
import HandS.DeepEq
import PyProof.ReprLen
import HandS.ExcValue
import KE.KExcIs
import PyProof.RowDictHeap
import PyProof.ReprNest
import HandS.Dict
import HandS.Iter
import PySem.Challenge.RW_sharedlets_k00_errors
set_option Elab.async false
set_option linter.all false
set_option maxRecDepth 100000
set_option maxHeartbeats 4000000
/-! ## Promises that are kept where no repr is under way; repr of data; a law's head -/
namespace Sl
open PySem PySem.Spec PyProof.Rows L2
/-- as FnOk, where the frames around are known to write nothing -/
structure FnG (P : Program) (w : World) (K : PySem.W.Frag) (mg : Str → Option Value) (base : Heap) (CX : CXT) (k : Nat) (f : Addr) (fd : FuncData) (ps : List Str) (sp : Sp) : Prop where
  size : ∀ xs G Q E, sp xs G Q E → xs.length = ps.length
  goes : ∀ A : Around, A.guards = some [] → ∀ (l : List Env) (z : Shared) (G : Hp) (ar : Args) (us : List Value) (xs : List V) (Q : VK) (E : XK), Room k A → Env0 P w K mg base A l z G →
    BindsTo z fd ar (ps.zip us) → Vals xs us → sp xs G Q E → codeAny (model P w) A (.call (.ref f) ar) (CR CX l P w G z Q E) z
theorem FnG.of {P : Program} {w : World} {K : PySem.W.Frag} {mg : Str → Option Value} {base : Heap} {CX : CXT} {k : Nat} {f : Addr} {fd : FuncData} {ps : List Str} {sp : Sp}
    (F : FnOk P w K mg base CX k f fd ps sp) : FnG P w K mg base CX k f fd ps sp :=
  ⟨F.len, fun A _ l z G ar us xs Q E a b c d e => F.run A l z G ar us xs Q E a b c d e⟩
section
variable {X : Cx} {CX : CXT} {k : Nat} {f : Addr} {fd : FuncData} {ps : List Str} {sp : Sp} {dvs : List V} {ds : List Value} {E : XK} {x : Str} {p pos : Pos} {e : Expr} {es : List Expr} {t : TA}
theorem goG {pins : List (Addr × Obj)} {σ : L2.St} {G : Hp} {z : Shared} {Q : VK} {us : List Value} {xs : List V} (hG : X.A.guards = some []) (F : FnG X.prog X.w X.K X.mg X.base CX k f fd ps sp) (hr : Room k X.A) (hb : Binds X.K fd ps ds)
    (hd : Vals dvs ds) (hx : Passes CX X E) (I : Inv X pins σ G z) (r : Vals xs us) (h : sp (xs ++ dvs) G Q E) :
    wpAny (model X.prog X.w) X.A (call (.ref f) us) (EP X pins σ Q) X.xe z := by
  have r' : Vals (xs ++ dvs) (us ++ ds) := r.append hd
  have n : (us ++ ds).length = ps.length := r'.length.symm.trans (F.size _ _ _ _ h)
  apply wpAny_call
  apply codeAny_mono (F.goes X.A hG X.stack z G ⟨us, []⟩ (us ++ ds) (xs ++ dvs) Q E hr I.env0 (hb z us I.kIn n) r' h)
  intro o z' q
  match o, q with
  | .error e, q => exact hx pins σ G z e z' I q
  | .ok (.ret u), q => exact I.after q
/-- f(e, ..), f of such a promise -/
theorem pe_callG (hG : X.A.guards = some []) (F : FnG X.prog X.w X.K X.mg X.base CX k f fd ps sp) (hr : Room k X.A) (hg : Gl X x) (hm : X.mg x = some (.ref f)) (hk : PySem.W.keepIn X.K (.ref f) = true) (hb : Binds X.K fd ps ds)
    (hd : Vals dvs ds) (hx : Passes CX X E) (ha : PA X (e :: es) t) (hdb : (x == ("__debug__" : Str)) = false := by decide)
    (he : starEach (e :: es) X.env = (false, eval e X.env) :: starEach es X.env := by rfl) (hpl : (backTo pos (starEach es X.env)).any (·.1) = false := by rfl) :
    PE X (.Call (.Name x p) (e :: es) [] pos) (tCall sp dvs E t) := by
  constructor
  intro pins z σ G Q I h
  apply wpAny_Call_Name_kw (ld_glob I hg hm ?_ hdb)
  apply PySem.W.callWith_K (h₀ := X.base) I.ok.mod.kin hk ?_ he hpl
  exact thn (ha.run pos pins z σ G _ I h) fun us z1 ⟨xs, G1, I1, r, q⟩ => ⟨I1.kIn, goG hG F hr hb hd hx I1 r q⟩
end
section
variable {P : Program} {w : World} {K : PySem.W.Frag} {mg : Str → Option Value} {base : Heap}
/-- a def by its body: as Fun.okX, the body may use that no repr is under way -/
theorem okG {x qual : Str} {st : Stmt} {f : Addr} {fd : FuncData} {N ps : List Str} {k : Nat} {sp : Sp} (F : Fun K x qual st f fd) (S : FnScope N ps (defScope st)) (size : ∀ xs G Q E, sp xs G Q E → xs.length = ps.length)
    (body : ∀ (cdv : Value) (A : Around) (l : List Env) (z : Shared) (G : Hp) (xs : List V) (Q : VK) (E : XK), A.guards = some [] → Room k (A.deeper (envOfC qual (defScope st) z.heap.objs.size f cdv)) → sp xs G Q E →
      ∃ t, PSs (cxOf (L2.CX P w) P w K mg base N qual (defScope st) f cdv A l z G E) (defBody st) t ∧ t { nx := fun _ G' => Q .non G', rt := Q } (start N xs) G) :
    FnG P w K mg base (L2.CX P w) (k + 1) f fd ps sp := by
  obtain ⟨oc, od, kV, doc, pm, an, cdv, ct, osl, rfl, lk, hcd⟩ := F.ex
  constructor
  · exact size
  intro A hG l z G ar us xs Q E hr e0 hb r hsp
  have hl := size _ _ _ _ hsp
  have inK : K.In z.heap := e0.mod.kin.keeps fun b o e => (e0.bs b o e).1
  have lim : z.heap.NoLimit := e0.mod.nolimit.keeps fun b o e => (e0.bs b o e).1
  have kinds : ∀ y ∈ ps.zip us, (defScope st).names.lookup y.1 = some .local ∨ ((defScope st).names.lookup y.1 = some .cell ∧ ((cellsFrom (z.heap.objs.size + 1) (defScope st).names []).lookup y.1).isSome = true) := by
    intro ⟨n, v⟩ hy
    cases S.par n (List.of_mem_zip hy).1 with
    | inl q => exact Or.inl q
    | inr q => exact Or.inr ⟨q, PySem.W.cellsFrom_some _ _ _ (Or.inl q)⟩
  apply codeAny_call_function hr.depth (inK _ _ lk) rfl S.co S.gen rfl (PySem.W.codeRec_of inK hcd) (hb _ _ _ _ ?_)
  apply wpAny_newFunctionEnv_cells S.kind kinds
  intro env he z1 y
  subst he
  refine ⟨lim.keeps y.toInCall.keep, codeAny_func ?_⟩
  obtain ⟨t, ht, hq⟩ := body cdv A l z G xs Q E hG (hr.deeper _) hsp
  have I0 := inv_start (CX := L2.CX P w) (N := N) (qual := qual) (scope := defScope st) (f := f) (cd := cdv) (E := E) S hr.hd e0 hl r y
  apply wpAny_mono (ht.run [] z1 (start N xs) G _ I0 hq) ?_ (fun e z' hz => hz)
  intro fl z' hz
  match fl, hz with
  | .ret u, ⟨v, σ', G', J, rv, q⟩ => exact ⟨v, G', J.os, J.bare, J.base, J.hok, rv, q⟩
  | .next, ⟨σ', G', J, q⟩ => exact ⟨V.non, G', J.os, J.bare, J.base, J.hok, rfl, q⟩
  | .brk, ⟨_, _, _, q⟩ => exact q.elim
  | .cont, ⟨_, _, _, q⟩ => exact q.elim
end
/-! ### heaps: lists may be filled, all else stays -/
/-- all that is tracked stays, but for what lists hold -/
def Ex (G G' : Hp) : Prop := ∀ b o, G b = some o → G' b = some o ∨ ((∃ l, o = .lst l) ∧ ∃ l', G' b = some (.lst l'))
theorem Ex.refl (G : Hp) : Ex G G := fun _ _ h => .inl h
theorem Ex.trans {G G1 G2 : Hp} (a : Ex G G1) (b : Ex G1 G2) : Ex G G2 := by
  intro c o h
  rcases a c o h with h1 | ⟨⟨l, e⟩, l1, h1⟩
  · exact b c o h1
  · rcases b c _ h1 with h2 | ⟨_, l2, h2⟩
    · exact .inr ⟨⟨l, e⟩, _, h2⟩
    · exact .inr ⟨⟨l, e⟩, _, h2⟩
theorem Ex.same {G G' : Hp} (h : Same G G') : Ex G G' := fun b o q => .inl (h b o q)
theorem Same.new {G : Hp} {p : Addr} {o : HO} (h : G p = none) : Same G (upd G p o) := fun b x e => by
  rw [upd_ne (ne_of_none e h)]
  exact e
/-- all but a stays -/
def Off (a : Addr) (G G' : Hp) : Prop := ∀ b o, b ≠ a → G b = some o → G' b = some o
theorem Off.refl (a : Addr) (G : Hp) : Off a G G := fun _ _ _ h => h
theorem Off.trans {a : Addr} {G G1 G2 : Hp} (x : Off a G G1) (y : Off a G1 G2) : Off a G G2 := fun b o n h => y b o n (x b o n h)
theorem Off.put {a : Addr} {G : Hp} {o : HO} : Off a G (upd G a o) := fun b x n e => by
  rw [upd_ne n]
  exact e
theorem Off.same {a : Addr} {G G' : Hp} (h : Same G G') : Off a G G' := fun b o _ q => h b o q
theorem Off.ex {a : Addr} {G G' : Hp} {l l' : List V} (h : Off a G G') (h1 : G a = some (.lst l)) (h2 : G' a = some (.lst l')) : Ex G G' := by
  intro b o q
  by_cases e : b = a
  · subst e
    rw [h1] at q
    cases q
    exact .inr ⟨⟨l, rfl⟩, l', h2⟩
  · exact .inl (h b o e q)
theorem Ex.tup {K : PySem.W.Frag} {G G' : Hp} {a : Addr} {xs : List V} (e : Ex G G') (h : SqT K G a xs) : SqT K G' a xs := by
  rcases h with (h | ⟨o, h⟩) | h
  · rcases e _ _ h with q | ⟨⟨_, z⟩, _⟩
    · exact .inl (.inl q)
    · cases z
  · rcases e _ _ h with q | ⟨⟨_, z⟩, _⟩
    · exact .inl (.inr ⟨o, q⟩)
    · cases z
  · exact .inr h
theorem Ex.ty {K : PySem.W.Frag} {G G' : Hp} {v : V} {t : Value} (e : Ex G G') (h : TyX K G v t) : TyX K G' v t := by
  cases h with
  | base b =>
    cases b with
    | non => exact .base .non
    | bl x => exact .base (.bl x)
    | int i => exact .base (.int i)
    | str x => exact .base (.str x)
    | flt x => exact .base (.flt x)
    | lst q =>
      rcases e _ _ q with q | ⟨_, l, q⟩
      · exact .base (.lst q)
      · exact .base (.lst q)
    | frz q =>
      rcases e _ _ q with q | ⟨⟨_, z⟩, _⟩
      · exact .base (.frz q)
      · cases z
    | tup q =>
      rcases e _ _ q with q | ⟨⟨_, z⟩, _⟩
      · exact .base (.tup q)
      · cases z
    | dK q =>
      rcases e _ _ q with q | ⟨⟨_, z⟩, _⟩
      · exact .base (.dK q)
      · cases z
    | dT q =>
      rcases e _ _ q with q | ⟨⟨_, z⟩, _⟩
      · exact .base (.dT q)
      · cases z
    | ins q cl ha hn htk hm =>
      rcases e _ _ q with q | ⟨⟨_, z⟩, _⟩
      · exact .base (.ins q cl ha hn htk hm)
      · cases z
  | byt b => exact .byt b
  | set q =>
    rcases e _ _ q with q | ⟨⟨_, z⟩, _⟩
    · exact .set q
    · cases z
  | kList a b => exact .kList a b
  | kTuple a b => exact .kTuple a b
  | kDict a b => exact .kDict a b
  | fTuple q =>
    rcases e _ _ q with q | ⟨⟨_, z⟩, _⟩
    · exact .fTuple q
    · cases z
  | fDict q =>
    rcases e _ _ q with q | ⟨⟨_, z⟩, _⟩
    · exact .fDict q
    · cases z
/-! ### values of any kind: what lists and dicts hold is left out -/
inductive D where
  | non
  | bl (b : Bool)
  | int (i : Int)
  | str (x : Str)
  | tup (ds : List D)
  | lst
  | dct
def D.ty : D → String
  | .non => "NoneType"
  | .bl _ => "bool"
  | .int _ => "int"
  | .str _ => "str"
  | .tup _ => "tuple"
  | .lst => "list"
  | .dct => "dict"
mutual
inductive Rdd (K : PySem.W.Frag) (H : Hp) : V → D → Prop
  | non : Rdd K H .non .non
  | bl (b : Bool) : Rdd K H (.bl b) (.bl b)
  | int (i : Int) : Rdd K H (.int i) (.int i)
  | str (x : Str) : Rdd K H (.str x) (.str x)
  | tup {a : Addr} {xs : List V} {ds : List D} : SqT K H a xs → RddAll K H xs ds → ds.length ≤ 100000 → Rdd K H (.ref a) (.tup ds)
  | lst {v : V} : TyX K H v (.type "list") → Rdd K H v .lst
  | dct {v : V} : TyX K H v (.type "dict") → Rdd K H v .dct
inductive RddAll (K : PySem.W.Frag) (H : Hp) : List V → List D → Prop
  | nil : RddAll K H [] []
  | cons {v : V} {vs : List V} {d : D} {ds : List D} : Rdd K H v d → RddAll K H vs ds → RddAll K H (v :: vs) (d :: ds)
end
section
variable {K : PySem.W.Frag} {H H' : Hp}
theorem sqT_ty {a : Addr} {xs : List V} (h : SqT K H a xs) : TyX K H (.ref a) (.type "tuple") := by
  rcases h with (h | ⟨o, h⟩) | ⟨o, its, n, hk, hc, _⟩
  · exact .base (.tup h)
  · exact .fTuple h
  · exact .kTuple hk hc
theorem Rdd.ty {v : V} {d : D} (h : Rdd K H v d) : TyX K H v (.type d.ty) := by
  cases h with
  | non => exact .base .non
  | bl b => exact .base (.bl b)
  | int i => exact .base (.int i)
  | str x => exact .base (.str x)
  | tup hs _ _ => exact sqT_ty hs
  | lst h => exact h
  | dct h => exact h
mutual
theorem Rdd.ex (e : Ex H H') : ∀ (d : D) {v : V}, Rdd K H v d → Rdd K H' v d
  | .non, _, h => by cases h; exact .non
  | .bl b, _, h => by cases h; exact .bl b
  | .int i, _, h => by cases h; exact .int i
  | .str x, _, h => by cases h; exact .str x
  | .tup ds, _, h => by
    cases h with
    | tup hs ha z => exact .tup (e.tup hs) (RddAll.ex e ds ha) z
  | .lst, _, h => by
    cases h with
    | lst q => exact .lst (e.ty q)
  | .dct, _, h => by
    cases h with
    | dct q => exact .dct (e.ty q)
theorem RddAll.ex (e : Ex H H') : ∀ (ds : List D) {vs : List V}, RddAll K H vs ds → RddAll K H' vs ds
  | [], _, h => by cases h; exact .nil
  | d :: ds, _, h => by
    cases h with
    | cons h1 h2 => exact .cons (Rdd.ex e d h1) (RddAll.ex e ds h2)
end
theorem RddAll.length : ∀ {vs : List V} {ds : List D}, RddAll K H vs ds → vs.length = ds.length
  | _, _, .nil => rfl
  | _, _, .cons _ h => by rw [List.length_cons, List.length_cons, h.length]
theorem RddAll.get : ∀ {vs : List V} {ds : List D} {i : Nat} {v : V}, RddAll K H vs ds → vs[i]? = some v → ∃ d, ds[i]? = some d ∧ Rdd K H v d
  | _, _, i, v, .nil, h => by simp at h
  | _, _, 0, v, .cons h1 h2, h => by
    have e := Option.some.inj h
    subst e
    exact ⟨_, rfl, h1⟩
  | _, _, i + 1, v, .cons h1 h2, h => RddAll.get (i := i) h2 (by rw [List.getElem?_cons_succ] at h; exact h)
/-- isinstance(v, t), t a built-in class -/
def isT (a b : String) : Bool := (kitB a b).getD false
def isA (t : String) (d : D) : Bool := isT d.ty t
theorem kit_isA {d : D} {t : String} (h : ∀ s ∈ ["NoneType", "bool", "int", "str", "tuple", "list", "dict"], (kitB s t).isSome = true) : PySem.W.kitOne K (.type d.ty) (.type t) = some (isA t d) := by
  have q : (kitB d.ty t).isSome = true := by
    apply h
    cases d <;> simp [D.ty]
  apply kit_ty
  unfold isA isT
  cases e : kitB d.ty t with
  | none => rw [e] at q; cases q
  | some b => rfl
theorem isA_int (d : D) : isA "int" d = match d with | .bl _ => true | .int _ => true | _ => false := by
  cases d
  · exact (by decide +kernel : isT "NoneType" "int" = false)
  · exact (by decide +kernel : isT "bool" "int" = true)
  · exact (by decide +kernel : isT "int" "int" = true)
  · exact (by decide +kernel : isT "str" "int" = false)
  · exact (by decide +kernel : isT "tuple" "int" = false)
  · exact (by decide +kernel : isT "list" "int" = false)
  · exact (by decide +kernel : isT "dict" "int" = false)
theorem isA_bool (d : D) : isA "bool" d = match d with | .bl _ => true | _ => false := by
  cases d
  · exact (by decide +kernel : isT "NoneType" "bool" = false)
  · exact (by decide +kernel : isT "bool" "bool" = true)
  · exact (by decide +kernel : isT "int" "bool" = false)
  · exact (by decide +kernel : isT "str" "bool" = false)
  · exact (by decide +kernel : isT "tuple" "bool" = false)
  · exact (by decide +kernel : isT "list" "bool" = false)
  · exact (by decide +kernel : isT "dict" "bool" = false)
theorem isA_tuple (d : D) : isA "tuple" d = match d with | .tup _ => true | _ => false := by
  cases d
  · exact (by decide +kernel : isT "NoneType" "tuple" = false)
  · exact (by decide +kernel : isT "bool" "tuple" = false)
  · exact (by decide +kernel : isT "int" "tuple" = false)
  · exact (by decide +kernel : isT "str" "tuple" = false)
  · exact (by decide +kernel : isT "tuple" "tuple" = true)
  · exact (by decide +kernel : isT "list" "tuple" = false)
  · exact (by decide +kernel : isT "dict" "tuple" = false)
end
/-! ### comprehensions whose turns change nothing that stood: item i gives the i-th of ys (none: it is left out) -/
theorem same_off {D : Addr} {H H' : Hp} (h : Off D H H') (n : H D = none) : Same H H' := fun b o e => h b o (ne_of_none e n) e
theorem lcT {K : PySem.W.Frag} {a : Addr} {xs : List V} {g : TG} {tt : TT} {te : TE} {vs : List Nat} {σ : L2.St} {H1 : Hp} {D : Addr} {Qd : Hp → Prop} (ys : List (Option V)) (hlen : ys.length = xs.length) (hz : xs.length ≤ 100000) (hT : SqT K H1 a xs) (hD : H1 D = none)
    (hs : ∀ (i : Nat) (x : V) (H : Hp) (Q : VK) (Z : Hp → Prop), xs[i]? = some x → Same H1 H → (∀ y H', ys[i]? = some (some y) → Same H H' → Q y H') → (∀ H', ys[i]? = some none → Same H H' → Z H') →
      g x (wipe σ vs) H fun σ2 H2 => wipe σ2 vs = wipe σ vs ∧ tt σ2 H2 fun b H3 => if b = true then te σ2 H3 Q else Z H3)
    (hd : ∀ H, Same H1 H → H D = some (.lst (ys.filterMap id)) → Qd H) :
    ∃ W : Nat → Nat → Hp → Prop, (∃ m, W 0 m (upd H1 D (.lst []))) ∧ ∀ i m H, W i m H →
      ((Itt K a).stop i H ∧ Qd H) ∨ ((Itt K a).go i H ∧ ∃ Nx : Hp → Prop, (∀ H', Nx H' → ∃ m', m' < m ∧ W (i + 1) m' H') ∧ ∀ x H', (Itt K a).yld i H x H' → g x (wipe σ vs) H' fun σ2 H2 => wipe σ2 vs = wipe σ vs ∧ tt σ2 H2 fun b H3 =>
        if b = true then te σ2 H3 fun y H4 => ∃ acc, H4 D = some (.lst acc) ∧ acc.length < sizeLine ∧ Nx (upd H4 D (.lst (acc ++ [y]))) else Nx H3) := by
  have acc_len : ∀ i, ((ys.take i).filterMap id).length < sizeLine := fun i => by
    have h1 := List.length_filterMap_le id (ys.take i)
    have h2 : (ys.take i).length ≤ ys.length := by rw [List.length_take]; omega
    have h3 : sizeLine = 16777216 := sizeLine_eq
    omega
  refine lc_tup (fun i H => Off D H1 H ∧ H D = some (.lst ((ys.take i).filterMap id))) ⟨.put, upd_same⟩ (fun i H _ ⟨h, _⟩ => (Ex.same (same_off h hD)).tup hT) (fun i x H hx ⟨ho, hl⟩ => ?_) (fun H ⟨ho, hl⟩ => ?_)
  · have hi : i < xs.length := (List.getElem?_eq_some_iff.mp hx).1
    refine hs i x H _ _ hx (same_off ho hD) (fun y H' hy sm => ⟨_, sm _ _ hl, acc_len i, ?_, ?_⟩) (fun H' hy sm => ⟨?_, ?_⟩)
    · exact (ho.trans (.same sm)).trans .put
    · rw [upd_same, List.take_add_one, hy, List.filterMap_append]
      rfl
    · exact ho.trans (.same sm)
    · rw [sm _ _ hl, List.take_add_one, hy, List.filterMap_append]
      simp
  · refine hd H (same_off ho hD) ?_
    rw [hl, ← hlen, List.take_length]
end Sl

set_option Elab.async false
set_option linter.all false
set_option maxRecDepth 100000
set_option maxHeartbeats 1000000
namespace Sl
open PySem PySem.Spec PyProof.Rows L2
/-! ### more rules: a list takes a tuple's items; tuples repeated any number of times -/
theorem extT (l : Addr) (xs : Array Value) (n : Nat) (b : Addr) (ys : Array Value) (m : Nat) (dd : Option Addr) (sl : Array (Option Value)) (a0 : ¬(!xs.isEmpty && Builtin.List.listTooLong (xs.size + ys.size)) = true) (a1 : xs.size ≤ sizeLine)
    (a2 : (xs ++ ys).size ≤ sizeLine + 1) :
    Meets (Builtin.«list.extend» ⟨[.ref l, .ref b], []⟩) (fun _ R z => z.heap.get? l = some { cls := .type "list", dict := none, data := .seq xs n, slots := #[] } ∧
      z.heap.get? b = some { cls := .type "tuple", dict := dd, data := .seq ys m, slots := sl } ∧ R (.ok (.ret Value.none)) { z with heap := z.heap.update l (Obj.mapSeq fun x => x ++ ys), toks := z.toks }) := by
  refine .of_wp fun prog w A R z h => ?_
  obtain ⟨hp, g, d, tk, os⟩ := z
  obtain ⟨hl, hb, h⟩ := h
  have f1 := AutoSeq1.idx_int
  have f2 := AutoSeq1.sub_tuple_tuple
  have f3 := AutoSeq1.sub_list_list
  have f4 := AutoSeq1.sub_tuple_list
  have f5 := AutoSeq1.sub_list_tuple
  wp_walk using (wpAny_updateSeq hl rfl (hz := a1) (_hz' := a2)), wpAny_loadPart' hl, wpAny_loadPart' hb
  exact ⟨_, rfl, h⟩
section
variable {X : Cx}
def rExtT (K : PySem.W.Frag) : V → List V → Hp → VK → Prop := fun x vs H Q => ∃ l b xs zs, x = .ref l ∧ vs = [.ref b] ∧ H l = some (.lst xs) ∧ SqT K H b zs ∧ xs.length + zs.length ≤ sizeLine ∧ Q .non (upd H l (.lst (xs ++ zs)))
theorem mt_extendT : MtM X "list.extend" (rExtT X.K) := by
  intro pins z σ G x vs v us Q I rx rv h
  obtain ⟨l, b, xs, zs, rfl, rfl, hG, hB, hz, q⟩ := h
  cases rx
  obtain ⟨u, rfl, ru⟩ := rv.one
  cases ru
  obtain ⟨y, its, n, r, hl, e⟩ := I.lstM hG
  obtain ⟨its2, r2, ⟨⟨cls, dd, data, sl⟩, ho, hc, n2, hd⟩, hs⟩ := I.tuple hB
  simp only at hc hd
  subst hc hd
  have l2 := r2.length
  have sz : its.toArray.size + its2.toArray.size ≤ sizeLine := by
    simp only [List.size_toArray]
    omega
  have short : ¬ (!its.toArray.isEmpty && Builtin.List.listTooLong (its.toArray.size + its2.toArray.size)) = true := by
    rw [notLongL sz]
    simp
  refine call_meets F.slot_list_extend ⟨_, e, rfl⟩ F.entry_list_extend (F.args_list_extend_2 _ _) (extT l its.toArray n b its2.toArray n2 dd sl short (by simp only [List.size_toArray]; omega) (by rw [Array.size_append]; omega)) ⟨e, ho, ?_⟩
  refine ⟨.non, _, I.lset (its' := its ++ its2) hG e (by simp) (r.append r2) ?_, rfl, q⟩
  rw [List.length_append]
  exact hz
theorem mulT1 (l : Addr) (xs : Array Value) (n : Nat) (dd : Option Addr) (sl : Array (Option Value)) (u : Tok) :
    Meets (Builtin.«tuple.__mul__» ⟨[.ref l, .int 1 u], []⟩) (fun _ R z => z.heap.get? l = some { cls := .type "tuple", dict := dd, data := .seq xs n, slots := sl } ∧ R (.ok (.ret (Value.ref l))) z) := by
  refine .of_wp fun prog w A R z h => ?_
  obtain ⟨hp, g, d, tk, os⟩ := z
  obtain ⟨hl, h⟩ := h
  have f1 := AutoSeq1.idx_int
  have c1 : (xs.isEmpty || (1 : Int) == 1) = true := by simp
  wp_walk using wpAny_loadPart' hl
  exact ⟨_, rfl, h⟩
theorem mulT0 (l : Addr) (xs : Array Value) (n : Nat) (dd : Option Addr) (sl : Array (Option Value)) (u : Tok) (hne : xs.isEmpty = false) :
    Meets (Builtin.«tuple.__mul__» ⟨[.ref l, .int 0 u], []⟩) (fun _ R z => z.heap.get? l = some { cls := .type "tuple", dict := dd, data := .seq xs n, slots := sl } ∧
      R (.ok (.ret (Value.ref z.heap.objs.size))) { z with heap := z.heap.push { cls := Value.type "tuple", data := Data.seq #[] }, toks := z.toks }) := by
  refine .of_wp fun prog w A R z h => ?_
  obtain ⟨hp, g, d, tk, os⟩ := z
  obtain ⟨hl, h⟩ := h
  have f1 := AutoSeq1.idx_int
  wp_walk using wpAny_loadPart' hl
  exact ⟨_, rfl, h⟩
/-- a tuple with items, repeated 0, 1 or more times -/
def rRepA (K : PySem.W.Frag) : R2 := fun x y G Q => ∃ l k xs, x = .ref l ∧ y = .int k ∧ SqT K G l xs ∧ xs ≠ [] ∧ 0 ≤ k ∧ k ≤ 1000 ∧ xs.length ≤ 1000 ∧
  (k = 1 → Q (.ref l) G) ∧ (k ≠ 1 → ∀ p, G p = none → Q (.ref p) (upd G p (.tup (List.replicate k.toNat xs).flatten)))
theorem op_repTA : OpR X (binaryOp .Mult) (rRepA X.K) := by
  intro pins z σ G x y v u Q I rx ry h
  obtain ⟨l, k, xs, rfl, rfl, hT, hne, h0, h1, hz, q1, q2⟩ := h
  by_cases k2 : 2 ≤ k
  · exact op_repT pins z σ G _ _ _ _ Q I rx ry ⟨l, k, xs, rfl, rfl, hT, hne, k2, h1, hz, q2 (by omega)⟩
  · cases rx
    obtain ⟨t, rfl⟩ := ry
    obtain ⟨its, r, ⟨⟨cls, dd, data, sl⟩, ho, hc, n, hd⟩, hs⟩ := I.tuple hT
    simp only at hc hd
    subst hc hd
    have hn : its.toArray.isEmpty = false := by
      cases its with
      | nil =>
        have e := r.length
        exact absurd (List.eq_nil_of_length_eq_zero e) hne
      | cons a b => rfl
    rcases (by omega : k = 0 ∨ k = 1) with rfl | rfl
    · refine wpAny_binaryOp_repeat_ref (T := "tuple") (U := "int") (by decide) ⟨_, ho, rfl⟩ (fun s' => typeIs_int s' 0 t) noFill_tuple_mul F.fills_int_mul F.slot_int_rmul repeat_tuple F.slot_int_index.lookup
        (call_meets F.slot_int_rmul (typeIs_int z 0 t) F.entry_int_rmul (F.args_int_rmul_2 _ _) (int_rmul_tuple 0 t l its.toArray n dd sl)
          ⟨ho, rfl, ⟨_, ho, rfl⟩, call_meets F.slot_tuple_mul ⟨_, ho, rfl⟩ F.entry_tuple_mul (F.args_tuple_mul_2 _ _) (mulT0 l its.toArray n dd sl t hn) ⟨ho, ?_⟩⟩)
      refine ⟨.ref z.heap.objs.size, _, I.laid (t' := z.toks) (o := .tup []) (fun b ob q => Heap.get?_push_of_some _ q) (Nat.le_refl _) ?_, rfl, q2 (by omega) _ (I.hok.fresh (Nat.le_refl _))⟩
      exact ⟨Nat.zero_le _, [], .nil, IsTup.new _ _⟩
    · refine wpAny_binaryOp_repeat_ref (T := "tuple") (U := "int") (by decide) ⟨_, ho, rfl⟩ (fun s' => typeIs_int s' 1 t) noFill_tuple_mul F.fills_int_mul F.slot_int_rmul repeat_tuple F.slot_int_index.lookup
        (call_meets F.slot_int_rmul (typeIs_int z 1 t) F.entry_int_rmul (F.args_int_rmul_2 _ _) (int_rmul_tuple 1 t l its.toArray n dd sl)
          ⟨ho, rfl, ⟨_, ho, rfl⟩, call_meets F.slot_tuple_mul ⟨_, ho, rfl⟩ F.entry_tuple_mul (F.args_tuple_mul_2 _ _) (mulT1 l its.toArray n dd sl t) ⟨ho, ?_⟩⟩)
      exact ⟨.ref l, G, I, rfl, q1 rfl⟩
end
end Sl

set_option Elab.async false
set_option linter.all false
set_option maxRecDepth 100000
set_option maxHeartbeats 1000000
/-! ## The first field of an exception of one's own, whatever built-in class it comes from -/
namespace PySem
namespace ErX
open Builtin Builtin.ObjectAttr
open PySem.W PySem.Calls PyProof.Rows PySem.HandSPX
section
variable {prog : Program} {w : World} {A : Around} {R : Result → Shared → Prop} {hp : Heap} {g : Array GenState} {d : Drawn} {t : Nat} {os : OsState}
theorem osa_first {K : Frag} {f : Str} {tk : Tok} {v : Value} {x C : Addr} {fv : Array Value} {cd : ClassData} (inK : K.In hp) (ox : hp.get? x = some { cls := .ref C, data := .fields fv }) (cC : clsIn K C = some cd)
    (pas : ∀ self, refuseLoop self "__setattr__" cd.mro = pure ()) (ne : cd.mro.isEmpty = false) (ob : cd.mro.contains (.type "object") = true) (hd : cd.hasDict = true) (nf : findIn K (.ref C) f = some none)
    (q : ∀ h' tk' dx, (∀ b o, b ≠ x → hp.get? b = some o → h'.get? b = some o) → hp.objs.size ≤ dx → dx ≠ x → h'.get? x = some { cls := .ref C, dict := some dx, data := .fields fv } →
      h'.Ns1 dx (fun y => if y = f then some v else none) → R (.ok (.ret .none)) ⟨h', g, d, tk', os⟩) :
    codeAny (model prog w) A (.call (.builtin "object.__setattr__") ⟨[.ref x, .str f tk, v], []⟩) R ⟨hp, g, d, t, os⟩ := by
  have xs : x ≠ hp.objs.size := Nat.ne_of_lt (Heap.lt_size ox)
  have inst : InstAt hp x { cls := .ref C, data := .fields fv } C none := ⟨ox, rfl, rfl, trivial⟩
  have SO := F.store_object
  have is_obj : Looks (model prog w) hp (isInstance (.ref x) (.type "object")) true :=
    inst.type.andThen (looks_mroIn inK (by unfold mroIn; rw [cC, Option.bind_some, if_neg (by rw [ne]; decide), ob]))
  apply codeAny_call_builtin SO.slot.plain SO.entry
  apply @check_slot (model prog w) _ _ ⟨hp, g, d, t, os⟩ "object.__setattr__" "object" "__setattr__" (.ref x) [.str f tk, v] [] _ SO.kind SO.split is_obj (SO.args (.ref x) (.str f tk) v)
  have its_mro : Looks (model prog w) hp (mroOf (.ref C)) cd.mro := (looks_clsIn inK cC).andThen .now
  have its_cls : Looks (model prog w) hp (classData C) cd := looks_clsIn inK cC
  have nobody : Looks (model prog w) hp (storeTaker? none) none := .now
  rw [osa_eq, refuse_eq]
  refine wpAny_bind (wpAny_bind (inst.type.at (wpAny_bind (its_mro.at ?one))))
  case' one => skip
  rw [pas]
  refine wpAny_pure (wpAny_bind (inst.type.at (wpAny_bind ((looks_findIn inK nf).at (wpAny_bind (nobody.at ?_))))))
  show wpAny _ _ (storeInOwnDict (.ref x) (.ref C) (.str f tk) f v false) _ _ _
  obtain ⟨c1, c2, c3, c4, c5, c6, c7, c8, c9, c10, c11⟩ := cd
  dsimp only at hd
  subst hd
  unfold storeInOwnDict ownDictForStores
  repeat (first | with_reducible refine store_in_new ?_ ?_ | with_reducible refine wpAny_loadPart_at ox ?_ | with_reducible refine its_cls.at ?_ | wp_step)
  · exact ⟨_, #[], _, (Heap.get?_update_ne _ _ _ _ xs.symm).trans (Heap.get?_push_at rfl rfl), rfl, fun e he => absurd he (by simp), fun _ => rfl⟩
  · intro h' tk' ns sb
    have ox1 : (hp.push { cls := .type "dict", data := .dict #[] }).get? x = some { cls := .ref C, data := .fields fv } := Heap.get?_push_of_some _ ox
    apply q h' tk' hp.objs.size _ (Nat.le_refl _) xs.symm _ ns
    · intro b o nb e
      rw [sb.2 b (Nat.ne_of_lt (Heap.lt_size e)), Heap.get?_update_ne _ _ _ _ nb]
      exact Heap.get?_push_of_some _ e
    · rw [sb.2 x xs]
      exact Heap.get?_update_self _ ox1 rfl
end
end ErX
end PySem

set_option Elab.async false
set_option linter.all false
set_option maxRecDepth 100000
set_option maxHeartbeats 1000000
/-! ## Comparisons with empty sequences, repr of data, a law's head -/
namespace Sl
open PySem PySem.Spec PyProof.Rows L2
/-! ### t == (), l == [] : only whether anything is in it -/
theorem eqT0 (l : Addr) (xs : Array Value) (n : Nat) (b : Addr) (m : Nat) (dd d2 : Option Addr) (sl s2 : Array (Option Value)) :
    Meets (Builtin.«tuple.__eq__» ⟨[.ref l, .ref b], []⟩) (fun _ R z => z.heap.get? l = some { cls := .type "tuple", dict := dd, data := .seq xs n, slots := sl } ∧ z.heap.get? b = some { cls := .type "tuple", dict := d2, data := .seq #[] m, slots := s2 } ∧
      R (.ok (.ret (.bool (decide (xs.size = 0))))) z) := by
  refine .of_wp fun prog w A R z h => ?_
  obtain ⟨hp, g, d, tk, os⟩ := z
  obtain ⟨hl, hb, h⟩ := h
  have f2 := AutoSeq1.sub_tuple_tuple
  obtain ⟨ys⟩ := xs
  cases ys with
  | nil =>
    wp_walk using wpAny_loadPart' hl, wpAny_loadPart' hb
    exact ⟨_, rfl, h⟩
  | cons y ys =>
    wp_walk using wpAny_loadPart' hl, wpAny_loadPart' hb
    refine ⟨_, rfl, ?_⟩
    have e1 : decide ((⟨y :: ys⟩ : Array Value).size = 0) = false := decide_eq_false (by simp)
    rw [e1] at h
    have e2 : Builtin.Tuple.tupleCompareSizes CmpOp.Eq (⟨y :: ys⟩ : Array Value).size (#[] : Array Value).size = .bool false := by
      unfold Builtin.Tuple.tupleCompareSizes
      simp
    rw [e2]
    exact h
theorem eqL0 (l : Addr) (xs : Array Value) (n : Nat) (b : Addr) (m : Nat) (dd d2 : Option Addr) (sl s2 : Array (Option Value)) (hne : (xs.size != 0) = true) :
    Meets (Builtin.«list.__eq__» ⟨[.ref l, .ref b], []⟩) (fun _ R z => z.heap.get? l = some { cls := .type "list", dict := dd, data := .seq xs n, slots := sl } ∧ z.heap.get? b = some { cls := .type "list", dict := d2, data := .seq #[] m, slots := s2 } ∧
      R (.ok (.ret (.bool false))) z) := by
  refine .of_wp fun prog w A R z h => ?_
  obtain ⟨hp, g, d, tk, os⟩ := z
  obtain ⟨hl, hb, h⟩ := h
  have f2 := AutoSeq1.sub_list_list
  have e0 : (xs.size != (#[] : Array Value).size) = true := hne
  wp_walk using wpAny_loadPart' hl, wpAny_loadPart' hb
  exact ⟨_, rfl, h⟩
section
variable {X : Cx}
/-- t == () -/
def rEqT0 (K : PySem.W.Frag) : R2 := fun x y G Q => ∃ a b xs, x = .ref a ∧ y = .ref b ∧ SqT K G a xs ∧ SqT K G b [] ∧ Q (.bl xs.isEmpty) G
theorem op_eqT0 (hu : X.A.units < cLine) : OpR X (compareOp .Eq) (rEqT0 X.K) := by
  intro pins z σ G x y v u Q I rx ry h
  obtain ⟨a, b, xs, rfl, rfl, ha, hb, q⟩ := h
  cases rx
  cases ry
  obtain ⟨its, r, ⟨⟨c1, dd, data, sl⟩, ho, hc, n, hd⟩, _⟩ := I.tuple ha
  obtain ⟨its2, r2, ⟨⟨c2, d2, data2, s2⟩, ho2, hc2, n2, hd2⟩, _⟩ := I.tuple hb
  simp only at hc hd hc2 hd2
  subst hc hd hc2 hd2
  cases r2
  have e : decide (its.toArray.size = 0) = xs.isEmpty := by
    rw [List.size_toArray, ← r.length]
    cases xs <;> rfl
  have m := eqT0 a its.toArray n b n2 dd d2 sl s2
  rw [e] at m
  exact wpAny_richCompare_same_room (op := .Eq) ⟨_, ho, rfl⟩ ⟨_, ho2, rfl⟩ F.slot_tuple_eq (call_meets F.slot_tuple_eq ⟨_, ho, rfl⟩ F.entry_tuple_eq (F.args_tuple_eq_2 _ _) m
    ⟨ho, ho2, (fun q => nomatch q), .bl _, G, I, rfl, q⟩) hu
/-- l == [] -/
def rEqL0 (K : PySem.W.Frag) : R2 := fun x y G Q => ∃ a b xs, x = .ref a ∧ y = .ref b ∧ SqL K G a xs ∧ SqL K G b [] ∧ Q (.bl xs.isEmpty) G
theorem op_eqL0 (hu : X.A.units + 64 < cLine) : OpR X (compareOp .Eq) (rEqL0 X.K) := by
  intro pins z σ G x y v u Q I rx ry h
  obtain ⟨a, b, xs, rfl, rfl, ha, hb, q⟩ := h
  cases xs with
  | nil => exact op_eqD hu pins z σ G _ _ _ _ Q I rx ry ⟨.list [], .list [], .lst ha .nil, .lst hb .nil, rfl, rfl, q⟩
  | cons x0 xs =>
    cases rx
    cases ry
    obtain ⟨its, r, p1, _⟩ := I.list ha
    obtain ⟨its2, r2, p2, _⟩ := I.list hb
    obtain ⟨⟨c1, dd, data, sl⟩, ho, hc, n, hd⟩ := p1.isList
    obtain ⟨⟨c2, d2, data2, s2⟩, ho2, hc2, n2, hd2⟩ := p2.isList
    simp only at hc hd hc2 hd2
    subst hc hd hc2 hd2
    cases r2
    have hne : (its.toArray.size != 0) = true := by
      rw [List.size_toArray, ← r.length]
      rfl
    exact wpAny_richCompare_same_room (op := .Eq) ⟨_, ho, rfl⟩ ⟨_, ho2, rfl⟩ F.slot_list_eq (call_meets F.slot_list_eq ⟨_, ho, rfl⟩ F.entry_list_eq (F.args_list_eq_2 _ _) (eqL0 a its.toArray n b n2 dd d2 sl s2 hne)
      ⟨ho, ho2, (fun q => nomatch q), .bl _, G, I, rfl, q⟩) (by omega)
/-! ### repr of data -/
/-- repr(v), v data of a bounded depth whose text is not too long -/
def rRepr (K : PySem.W.Frag) : List V → Hp → VK → Prop := fun xs H Q => ∃ v d, xs = [v] ∧ Dp K H v d ∧ d.showable = true ∧ d.depth ≤ 40 ∧ d.shown.length ≤ sizeLine ∧ Q (.str d.shown) H
theorem noDict {K : PySem.W.Frag} {H : Hp} : ∀ (d : PyData) (v : V), Dp K H v d → d.hasDict = false
  | .none, _, _ => by simp only [PyData.hasDict]
  | .bool _, _, _ => by simp only [PyData.hasDict]
  | .int _, _, _ => by simp only [PyData.hasDict]
  | .str _, _, _ => by simp only [PyData.hasDict]
  | .list ds, _, h => by
    cases h with
    | lst _ ha =>
      simp only [PyData.hasDict]
      exact go ds _ ha
  | .tuple ds, _, h => by
    cases h with
    | tup _ ha =>
      simp only [PyData.hasDict]
      exact go ds _ ha
  | .dict _, _, h => by cases h
where
  go : ∀ (ds : List PyData) (vs : List V), DpAll K H vs ds → PyData.hasDictAll ds = false
  | [], _, _ => by simp only [PyData.hasDictAll]
  | d :: ds, _, h => by
    cases h with
    | cons h1 h2 =>
      simp only [PyData.hasDictAll]
      rw [noDict d _ h1, go ds _ h2]
      rfl
theorem call_repr {k : Nat} (hG : X.A.guards = some []) (hr : Room k X.A) : CallR X (.builtin "repr") (rRepr X.K) := by
  intro pins z σ H xs us Q I r h
  obtain ⟨v, d, rfl, hd, hs, hdp, hz, q⟩ := h
  obtain ⟨u, rfl, ru⟩ := vals1 r
  have hu := hr.units
  cases hd with
  | non =>
    cases ru
    exact PySem.P.repr_of_none ⟨.str _, H, I.tok _, ⟨_, rfl⟩, q⟩
  | bl b =>
    cases ru
    exact PySem.P.repr_of_bool ⟨.str _, H, I.tok _, ⟨_, rfl⟩, by simpa only [PyData.shown] using q⟩
  | int i =>
    obtain ⟨t, rfl⟩ := ru
    exact PySem.P.repr_of_int (of_decide_eq_true (by simpa only [PyData.showable] using hs)) ⟨.str _, H, I.tok _, ⟨_, rfl⟩, by simpa only [PyData.shown] using q⟩
  | str x =>
    obtain ⟨t, rfl⟩ := ru
    simp only [PyData.shown] at q hz
    exact PySem.P.repr_of_str ⟨.str _, H, I.tok _, ⟨_, rfl⟩, q⟩ hz
  | @lst a ys ds h1 h2 =>
    cases ru
    obtain ⟨as, rd⟩ := Dp.reads I (.list ds) (.ref a) (.ref a) (.lst h1 h2) rfl
    refine repr_of_reads' rd hs (PyData.noDict_hsm (noDict (.list ds) (.ref a) (.lst h1 h2))) hG (by omega) (fun _ _ e => e) (fun h' u tk hk => ?_) hz
    exact ⟨.str _, H, I.kept hk, ⟨u, rfl⟩, q⟩
  | @tup a ys ds h1 h2 =>
    cases ru
    obtain ⟨as, rd⟩ := Dp.reads I (.tuple ds) (.ref a) (.ref a) (.tup h1 h2) rfl
    refine repr_of_reads' rd hs (PyData.noDict_hsm (noDict (.tuple ds) (.ref a) (.tup h1 h2))) hG (by omega) (fun _ _ e => e) (fun h' u tk hk => ?_) hz
    exact ⟨.str _, H, I.kept hk, ⟨u, rfl⟩, q⟩
end
end Sl

set_option Elab.async false
set_option linter.all false
set_option maxRecDepth 100000
set_option maxHeartbeats 1000000
/-! ## A law's head, from a promise that is kept where no repr is under way -/
namespace Sl
open PySem PySem.Spec PyProof.Rows L2
theorem law_callG {P : Program} {w : World} {K : PySem.W.Frag} {mg mb : Str → Option Value} {k : Nat} {fa a : Addr} {fd : FuncData} {x : Str} {sp : Sp} {z : Shared} {vs : List Value} {ns : List Int}
    (inK : K.In z.heap) (gl : z.heap.Ns mainGlobals mg) (bl : z.heap.Ns builtinsNs mb) (bb : ∀ x : Str, x ≠ "__name__" → mb x = bootBuiltins x) (lim : z.heap.NoLimit) (gs : z.gens = #[])
    (oa : z.heap.get? a = some { cls := .type "list", data := .seq vs.toArray }) (hi : IntsAre vs ns) (hl : ns.length ≤ sizeLine) (hr : Room k callerA)
    (F : ∀ base : Heap, K.In base → base.Ns mainGlobals mg → FnG P w K mg base (L2.CX P w) k fa fd [x] sp) (bind : ∀ (s : Shared) (u : Value), BindsTo s fd ⟨[u], []⟩ [(x, u)])
    (hsp : ∀ G : Hp, Only G → SqL K G a (ns.map V.int) → sp [.ref a] G (fun v _ => v = .bl true) fun _ _ _ => False) :
    codeAny (model P w) callerA (.call (.ref fa) ⟨[.ref a], []⟩) (fun r s' => r = .ok (.ret (.bool true)) ∧ OldK z.heap s'.heap ∧ s'.os = z.os ∧ AllBare s'.gens) z := by
  have items := vals_ints hi
  have count := hi.length
  have main : ∀ G : Hp, Only G → SqL K G a (ns.map V.int) → HOk P w G z.heap → (∀ b, G b ≠ none → b = a) → (G a ≠ none → K.lookup a = none) →
      codeAny (model P w) callerA (.call (.ref fa) ⟨[.ref a], []⟩) (fun r s' => r = .ok (.ret (.bool true)) ∧ OldK z.heap s'.heap ∧ s'.os = z.os ∧ AllBare s'.gens) z := by
    intro G only sq ok one notK
    have plain_of : ∀ {b : Addr} {o : Obj} {es : Array DictEntry} {ep : Nat}, z.heap.get? b = some o → o.data = .dict es ep → G b = none := by
      intro b o es ep e dt
      cases q : G b with
      | none => rfl
      | some u =>
        have e1 : b = a := one b (by simp [q])
        rw [e1, oa] at e
        cases e
        exact absurd (show Data.seq vs.toArray _ = Data.dict es ep from dt) (fun y => nomatch y)
    have ns_of : ∀ {b : Addr} {m : Str → Option Value}, z.heap.Ns b m → (hidT z.heap G).Ns b m := by
      intro b m h
      obtain ⟨o, es, ep, e, dt, r⟩ := h
      exact ⟨o, es, ep, hidT_get e (plain_of e dt), dt, r⟩
    have inB : K.In (hidT z.heap G) := by
      intro b o e
      apply hidT_get (inK b o e)
      cases q : G b with
      | none => rfl
      | some u =>
        have e1 : b = a := one b (by simp [q])
        subst e1
        rw [notK (by simp [q])] at e
        cases e
    have noLim : (hidT z.heap G).NoLimit := by
      obtain ⟨mc, h1, h2⟩ := lim
      exact ⟨mc, ns_of h1, h2⟩
    have md : Mod K mg (hidT z.heap G) := { kin := inB, glob := ns_of gl, blt := ⟨mb, ns_of bl, bb⟩, nolimit := noLim }
    have e0 : Env0 P w K mg (hidT z.heap G) callerA [] z G :=
      { frames := rfl, mod := md, bs := fun b o e => of_hidT e, bsz := Nat.le_of_eq (hidT_size _ _), funs := trivial, frf := fun b hb => absurd (show b ∈ ([] : List Addr) from hb) (by simp), hok := ok, bare := .of_eq gs }
    apply codeAny_mono ((F _ inB (ns_of gl)).goes callerA rfl [] z G ⟨[.ref a], []⟩ [.ref a] [.ref a] _ _ hr e0 (bind z (.ref a)) (.cons rfl .nil) (hsp G only sq))
    intro r s' h
    match r, h with
    | .error e, h =>
      obtain ⟨_, _, _, _, _, _, _, _, _, _, _, _, y⟩ := h
      exact y.elim
    | .ok (.ret u), ⟨v, G', os, bare, un, ok', r', q⟩ =>
      have q1 : v = .bl true := q
      subst q1
      obtain rfl : u = Value.bool true := r'
      refine ⟨rfl, OldK.of_keep ?_, os, bare⟩
      intro b o e
      cases y : G b with
      | none => exact un.keep b o e y (by intro q; exact absurd (show b ∈ ([] : List Addr) from q) (by simp)) (by simp)
      | some u =>
        rcases only b with y2 | ⟨ob, xs, y2⟩
        · rw [y] at y2
          cases y2
        · obtain ⟨e1, _⟩ := ok b _ y2
          obtain ⟨e2, _⟩ := ok' b _ (un.frzs b ob _ y2)
          rw [e] at e1
          cases e1
          exact e2
  cases hk : K.lookup a with
  | some o =>
    have e := inK a o hk
    rw [oa] at e
    cases e
    refine main (fun _ => none) (fun _ => .inl rfl) (.inr ⟨_, vs.toArray, _, hk, rfl, rfl, rfl, ?_, by simpa using items⟩) (fun b u y => nomatch (show (none : Option HO) = some u from y)) (fun b y => absurd rfl y) fun y => absurd rfl y
    rw [List.size_toArray, count]
    exact hl
  | none =>
    have at_a : ∀ b, b ≠ a → (fun b => if b = a then some (HO.frz { cls := .type "list", data := .seq vs.toArray } (.lst (ns.map V.int))) else none) b = none := fun b hb => if_neg hb
    refine main (fun b => if b = a then some (.frz { cls := .type "list", data := .seq vs.toArray } (.lst (ns.map V.int))) else none) ?_ (.inl (.inr ⟨{ cls := .type "list", data := .seq vs.toArray }, if_pos rfl⟩)) ?_ ?_ fun _ => hk
    · intro b
      by_cases hb : b = a
      · exact .inr ⟨_, _, if_pos hb⟩
      · exact .inl (if_neg hb)
    · intro b u y
      by_cases hb : b = a
      · subst hb
        have y' := (if_pos rfl).symm.trans y
        cases y'
        exact ⟨oa, by rw [List.length_map]; exact hl, vs, _, items, oa⟩
      · rw [at_a b hb] at y
        cases y
    · intro b y
      by_cases hb : b = a
      · exact hb
      · exact absurd (at_a b hb) y
/-- the goal that the head's word leaves, from such a promise of the law -/
theorem walkG {l : PySem.W.OpenLaw} {n k : Nat} {q : Program} {loose : List Str} {XP : (Str → Option Value) → Heap → Prop} {YP : World → Heap → Prop} {d : DefRec} {K : Params → PySem.W.Frag} {sp : World → Sp} {x : Str}
    (hn : l.most = some n) (hn2 : n ≤ sizeLine) (hdf : d.params.defaults = []) (hr : Room k callerA) (hY : ∀ (w : World) (h : Heap), YP w h → (K w.params).In h)
    (F : ∀ (w : World) (mg : Str → Option Value) (fa : Addr) (h : Heap), (K w.params).In h → h.Ns mainGlobals mg → mg d.name = some (.ref fa) →
      ∃ fd : FuncData, (∀ (s : Shared) (u : Value), BindsTo s fd ⟨[u], []⟩ [(x, u)]) ∧
        ∀ base : Heap, (K w.params).In base → base.Ns mainGlobals mg → FnG l.prog w (K w.params) mg base (L2.CX l.prog w) k fa fd [x] (sp w))
    (hsp : ∀ (w : World) (G : Hp) (a : Addr) (ns : List Int), ns.length ≤ n → Only G → SqL (K w.params) G a (ns.map V.int) → sp w [.ref a] G (fun v _ => v = .bl true) fun _ _ _ => False) :
    PySem.W.WalkO q loose XP YP l.row.toRowW d [] (fun f vs => PySem.call f vs) := by
  apply Att.attach_call hn hdf
  intro w s₀ z mg mb fa o pm cd doc a vs ns G Y ho hd hcd hmg hobj hints hlen hg
  have inK := hY w _ Y
  obtain ⟨fd, hb, hF⟩ := F w mg fa _ inK G.T.g hmg
  exact law_callG inK G.T.g G.T.b G.T.builtins G.T.nolimit hg hobj hints (Nat.le_trans hlen hn2) hr hF hb (fun H hO hS => hsp w H a ns hlen hO hS)
end Sl

set_option Elab.async false
set_option linter.all false
set_option maxRecDepth 100000
set_option maxHeartbeats 400000
/-! ## Values without lists and dicts as data: their texts have a bounded length -/
namespace Sl
open PySem PySem.Spec PyProof.Rows L2
mutual
def D.py : D → PyData
  | .non => .none
  | .bl b => .bool b
  | .int i => .int i
  | .str x => .str x
  | .tup ds => .tuple (D.pys ds)
  | .lst => .none
  | .dct => .none
def D.pys : List D → List PyData
  | [] => []
  | d :: ds => d.py :: D.pys ds
end
mutual
/-- tuples, bools, none and ints below 2 ^ 128 -/
def D.good : D → Bool
  | .non => true
  | .bl _ => true
  | .int i => decide (i.natAbs.log2 < 128)
  | .tup ds => D.goods ds
  | _ => false
def D.goods : List D → Bool
  | [] => true
  | d :: ds => d.good && D.goods ds
end
mutual
def D.wt : D → Nat
  | .tup ds => D.wts ds + 3
  | _ => 129
def D.wts : List D → Nat
  | [] => 0
  | d :: ds => d.wt + 2 + D.wts ds
end
mutual
def D.dep : D → Nat
  | .tup ds => D.deps ds + 1
  | _ => 0
def D.deps : List D → Nat
  | [] => 0
  | d :: ds => max d.dep (D.deps ds)
end
theorem good_and {d : D} {ds : List D} (h : D.goods (d :: ds) = true) : d.good = true ∧ D.goods ds = true := by
  simp only [D.goods, Bool.and_eq_true] at h
  exact h
theorem goods_of : ∀ {ds : List D}, (∀ d ∈ ds, d.good = true) → D.goods ds = true
  | [], _ => by simp only [D.goods]
  | d :: ds, h => by
    simp only [D.goods, Bool.and_eq_true]
    exact ⟨h d List.mem_cons_self, goods_of fun x hx => h x (List.mem_cons_of_mem _ hx)⟩
theorem goods_mem : ∀ {ds : List D}, D.goods ds = true → ∀ d ∈ ds, d.good = true
  | [], _, _, h => absurd h List.not_mem_nil
  | x :: xs, g, d, h => by
    have := good_and g
    rcases List.mem_cons.mp h with e | e
    · rw [e]
      exact this.1
    · exact goods_mem this.2 d e
section
variable {K : PySem.W.Frag} {H : Hp}
mutual
theorem Rdd.dp : ∀ (d : D) {v : V}, d.good = true → Rdd K H v d → Dp K H v d.py
  | .non, _, _, h => by cases h; simp only [D.py]; exact .non
  | .bl b, _, _, h => by cases h; simp only [D.py]; exact .bl b
  | .int i, _, _, h => by cases h; simp only [D.py]; exact .int i
  | .str x, _, g, _ => by simp [D.good] at g
  | .tup ds, _, g, h => by
    simp only [D.good] at g
    cases h with
    | tup hs ha _ =>
      simp only [D.py]
      exact .tup hs (RddAll.dp ds g ha)
  | .lst, _, g, _ => by simp [D.good] at g
  | .dct, _, g, _ => by simp [D.good] at g
theorem RddAll.dp : ∀ (ds : List D) {vs : List V}, D.goods ds = true → RddAll K H vs ds → DpAll K H vs (D.pys ds)
  | [], _, _, h => by cases h; simp only [D.pys]; exact .nil
  | d :: ds, _, g, h => by
    have g2 := good_and g
    cases h with
    | cons h1 h2 =>
      simp only [D.pys]
      exact .cons (Rdd.dp d g2.1 h1) (RddAll.dp ds g2.2 h2)
end
end
mutual
theorem good_show : ∀ d : D, d.good = true → d.py.showable = true ∧ d.py.canLay0 = true
  | .non, _ => by simp [D.py, PyData.showable, PyData.canLay0]
  | .bl b, _ => by simp [D.py, PyData.showable, PyData.canLay0]
  | .int i, g => by
    simp only [D.good, decide_eq_true_eq] at g
    simp only [D.py, PyData.showable, PyData.canLay0, decide_eq_true_eq, and_true]
    omega
  | .str x, g => by simp [D.good] at g
  | .tup ds, g => by
    simp only [D.good] at g
    simp only [D.py, PyData.showable, PyData.canLay0]
    exact goods_show ds g
  | .lst, g => by simp [D.good] at g
  | .dct, g => by simp [D.good] at g
theorem goods_show : ∀ ds : List D, D.goods ds = true → PyData.showableAll (D.pys ds) = true ∧ PyData.canLayAll0 (D.pys ds) = true
  | [], _ => by simp [D.pys, PyData.showableAll, PyData.canLayAll0]
  | d :: ds, g => by
    have g2 := good_and g
    have h1 := good_show d g2.1
    have h2 := goods_show ds g2.2
    simp only [D.pys, PyData.showableAll, PyData.canLayAll0, Bool.and_eq_true]
    exact ⟨⟨h1.1, h2.1⟩, h1.2, h2.2⟩
end
mutual
theorem dep_py : ∀ d : D, d.py.depth ≤ d.dep
  | .non => by simp [D.py, PyData.depth, D.dep]
  | .bl b => by simp [D.py, PyData.depth, D.dep]
  | .int i => by simp [D.py, PyData.depth, D.dep]
  | .str x => by simp [D.py, PyData.depth, D.dep]
  | .tup ds => by
    simp only [D.py, PyData.depth, D.dep]
    have := deps_py ds
    omega
  | .lst => by simp [D.py, PyData.depth, D.dep]
  | .dct => by simp [D.py, PyData.depth, D.dep]
theorem deps_py : ∀ ds : List D, PyData.depthAll (D.pys ds) ≤ D.deps ds
  | [] => by simp [D.pys, PyData.depthAll, D.deps]
  | d :: ds => by
    simp only [D.pys, PyData.depthAll, D.deps]
    have h1 := dep_py d
    have h2 := deps_py ds
    omega
end
mutual
theorem shown_wt : ∀ d : D, d.good = true → d.py.shown.length ≤ d.wt
  | .non, _ => by
    simp only [D.py, PyData.shown_none, D.wt]
    decide +kernel
  | .bl b, _ => by
    simp only [D.py, PyData.shown_bool, D.wt]
    cases b <;> decide +kernel
  | .int i, g => by
    simp only [D.good, decide_eq_true_eq] at g
    simp only [D.py, PyData.shown_int, D.wt]
    have e := int_text_length_le (k := 128) (by decide) g
    rw [PySem.ofString_length]
    exact e
  | .str x, g => by simp [D.good] at g
  | .tup ds, g => by
    simp only [D.good] at g
    simp only [D.py, D.wt, PyData.shown]
    have h1 := tupleText_len_le (PyData.shownAll (D.pys ds))
    have h2 := shown_wts ds g
    omega
  | .lst, g => by simp [D.good] at g
  | .dct, g => by simp [D.good] at g
theorem shown_wts : ∀ ds : List D, D.goods ds = true → ((PyData.shownAll (D.pys ds)).map (·.length)).sum + 2 * (PyData.shownAll (D.pys ds)).length ≤ D.wts ds
  | [], _ => by simp [D.pys, PyData.shownAll, D.wts]
  | d :: ds, g => by
    have g2 := good_and g
    have h1 := shown_wt d g2.1
    have h2 := shown_wts ds g2.2
    simp only [D.pys, PyData.shownAll, D.wts, List.map_cons, List.sum_cons, List.length_cons]
    omega
end
theorem wts_append : ∀ (a b : List D), D.wts (a ++ b) = D.wts a + D.wts b
  | [], b => by simp [D.wts]
  | d :: ds, b => by
    simp only [List.cons_append, D.wts, wts_append ds b]
    omega
theorem wts_take (k : Nat) (ds : List D) : D.wts (ds.take k) ≤ D.wts ds := by
  have e := wts_append (ds.take k) (ds.drop k)
  rw [List.take_append_drop] at e
  omega
theorem wts_len : ∀ ds : List D, ds.length ≤ D.wts ds
  | [] => by simp [D.wts]
  | d :: ds => by
    have := wts_len ds
    simp only [D.wts, List.length_cons]
    omega
/-- what repr asks of such a value -/
theorem rRepr_of {K : PySem.W.Frag} {H : Hp} {v : V} {d : D} {Q : VK} (r : Rdd K H v d) (g : d.good = true) (hd : d.dep ≤ 40) (hw : d.wt ≤ 1000000) (q : Q (.str d.py.shown) H) : rRepr K [v] H Q := by
  have h1 := dep_py d
  have h2 := shown_wt d g
  have h3 : sizeLine = 16777216 := sizeLine_eq
  exact ⟨v, d.py, rfl, Rdd.dp d g r, (good_show d g).1, by omega, by omega, q⟩
/-- v != u of equal such values -/
theorem rNe_same {K : PySem.W.Frag} {H : Hp} {v u : V} {d : D} {Q : VK} (r1 : Rdd K H v d) (r2 : Rdd K H u d) (g : d.good = true) (hd : d.dep ≤ 40) (q : Q (.bl false) H) : rNeD K v u H Q := by
  have h1 := dep_py d
  have c := (good_show d g).2
  have s : SeqAt.shaped d.py = true := by
    unfold SeqAt.shaped
    rw [c, decide_eq_true (show d.py.depth ≤ 64 by omega)]
    rfl
  refine ⟨d.py, d.py, Rdd.dp d g r1, Rdd.dp d g r2, s, s, ?_⟩
  rw [SeqAt.eqv_refl d.py c]
  exact q
theorem rEq_same {K : PySem.W.Frag} {H : Hp} {v u : V} {d : D} {Q : VK} (r1 : Rdd K H v d) (r2 : Rdd K H u d) (g : d.good = true) (hd : d.dep ≤ 40) (q : Q (.bl true) H) : rEqD K v u H Q := by
  have h1 := dep_py d
  have c := (good_show d g).2
  have s : SeqAt.shaped d.py = true := by
    unfold SeqAt.shaped
    rw [c, decide_eq_true (show d.py.depth ≤ 64 by omega)]
    rfl
  refine ⟨d.py, d.py, Rdd.dp d g r1, Rdd.dp d g r2, s, s, ?_⟩
  rw [SeqAt.eqv_refl d.py c]
  exact q
end Sl

set_option Elab.async false
set_option linter.all false
set_option maxRecDepth 100000
set_option maxHeartbeats 400000
/-! ## Exceptions of the program's own classes, held as values: asked for their class, read -/
namespace Sl
open PySem PySem.Spec PyProof.Rows L2
/-- an exception of the class D, its dict at od, at a -/
def EO (D : Addr) (od : Option Addr) (a : Addr) : HO := .ext fun h => ∃ (oe : Obj) (vs : Array Value), h.get? a = some oe ∧ oe.cls = .ref D ∧ oe.dict = od ∧ oe.data = .fields vs
theorem eo_ok {P : Program} {w : World} {H : Hp} {h : Heap} {a D : Addr} {od : Option Addr} {oe : Obj} {vs : Array Value} (e : h.get? a = some oe) (c : oe.cls = .ref D) (d : oe.dict = od) (f : oe.data = .fields vs) : ObjOk P w H h a (EO D od a) :=
  ⟨⟨oe, vs, e, c, d, f⟩, ⟨oe, e⟩, fun _ _ ⟨o, v, q, r⟩ k => ⟨o, v, k o q, r⟩⟩
/-- an exception without fields, an exception with some -/
def IsE (H : Hp) (a D : Addr) : Prop := H a = some (ExO (.ref D) a) ∨ ∃ d fs, H a = some (EO D (some d) a) ∧ H d = some (.xd fs)
/-- what the class says, so that isinstance asks its instances by their type -/
structure ErC (K : PySem.W.Frag) (D : Addr) : Prop where
  cl : (PySem.W.clsIn K D).isSome = true
  ga : PySem.W.findIn K (.ref D) "__getattribute__" = some (some (.builtin "BaseException.__getattribute__"))
  gg : PySem.W.findIn K (.ref D) "__getattr__" = some none
  su : PySem.W.subIn K (.ref D) (.type "BaseException") = some true
  ha : PySem.W.findIn K (.ref D) "__class__" = some (some (.builtin "object.__class__"))
  hn : PySem.W.specialIn K (.builtin "object.__class__") "__get__" = some (some (.builtin "getset_descriptor.__get__"))
  ht : PySem.W.takesIn K (.builtin "object.__class__") = some true
  hm : PySem.W.mroIn K D (.type "object") = some true
section
variable {X : Cx} {pins : List (Addr × Obj)} {σ : L2.St} {H : Hp} {s : Shared} {a D : Addr}
theorem isE_at (I : Inv X pins σ H s) (e : IsE H a D) : ∃ ox od, PySem.W.InstAt s.heap a ox D od := by
  rcases e with e | ⟨d, fs, e, ed⟩
  · obtain ⟨⟨oe, vs, h1, h2, h3, _⟩, _⟩ := I.hok a _ e
    refine ⟨oe, none, h1, h2.1, ?_, ?_⟩
    · unfold PySem.W.notCls
      rw [h3] <;> rfl
    · first | trivial | exact h2.2 | (rw [h2.2]; trivial)
  · obtain ⟨⟨oe, vs, h1, h2, h3, h4⟩, _⟩ := I.hok a _ e
    have hx : ObjOk X.prog X.w H s.heap d (.xd fs) := I.hok d _ ed
    obtain ⟨mA, hns, _⟩ := hx
    obtain ⟨od, ho, _⟩ := lookIn_ns hns
    refine ⟨oe, some od, h1, h2, ?_, ?_⟩
    · unfold PySem.W.notCls
      rw [h4] <;> rfl
    · rw [h3]
      exact ho
end
/-- isinstance(e, c), e an exception of the program's own, c a class -/
def rIsX (K : PySem.W.Frag) : List V → Hp → VK → Prop := fun xs H Q => ∃ (a D : Addr) (c : V) (cv : Value) (b : Bool), xs = [.ref a, c] ∧ IsE H a D ∧ ErC K D ∧ (∀ u, RelV c u → u = cv) ∧ PySem.W.kitOne K (.ref D) cv = some b ∧ Q (.bl b) H
theorem call_isX {X : Cx} : CallR X (.builtin "isinstance") (rIsX X.K) := by
  intro pins s σ H xs us Q I r h
  obtain ⟨a, D, c, cv, b, rfl, he, C, hcv, e, q⟩ := h
  obtain ⟨u1, u2, rfl, r1, r2⟩ := vals2 r
  cases r1
  have ec := hcv _ r2
  subst ec
  obtain ⟨ox, od, J⟩ := isE_at I he
  exact PySem.W.kia_one (PySem.W.kitx_exc C.cl C.ga C.gg C.su C.ha C.hn C.ht C.hm) I.kIn J e (fun z => nomatch z) fun tk => ⟨.bl b, H, I.tok tk, rfl, q⟩
/-- e.f, e an exception of the program's own with the field f -/
def rGetX (K : PySem.W.Frag) (f : Str) : V → Hp → VK → Prop := fun x H Q => ∃ (a D d : Addr) (fs : List (Str × V)) (v : V), x = .ref a ∧ H a = some (EO D (some d) a) ∧ H d = some (.xd fs) ∧ ErC K D ∧ PySem.W.hasDictIn K D = true ∧ PySem.W.findIn K (.ref D) f = some none ∧ fs.lookup f = some v ∧ Q v H
theorem pe_getX {X : Cx} {e : Expr} {te : TE} {f : Str} {pos : Pos} (he : PE X e te) (hb : attributeBase e f X.env (eval e X.env) = eval e X.env := by rfl) :
    PE X (.Attribute e f pos) (fun σ H Q => te σ H fun x H1 => rGetX X.K f x H1 Q) := by
  refine ⟨fun pins s σ H Q I h => ?_⟩
  refine attr_of hb (thn (he.run pins s σ H _ I h) fun u s1 hh => ?_)
  obtain ⟨x, H1, I1, rx, a, D, d, fs, v, ex, h1, h2, C, hd, no, lk, q⟩ := hh
  subst ex
  cases rx
  obtain ⟨⟨oe, vs, e1, e2, e3, e4⟩, _⟩ := I1.hok a _ h1
  have hx : ObjOk X.prog X.w H1 s1.heap d (.xd fs) := I1.hok d _ h2
  obtain ⟨mA, hns, hr⟩ := hx
  obtain ⟨od, ho, hl⟩ := lookIn_ns hns
  obtain ⟨u, hu, ru⟩ := RelO.some_of (v := v) (o := mA f) (by rw [← lk]; exact hr f)
  have J : PySem.W.InstAt s1.heap a oe D (some od) := ⟨e1, e2, by unfold PySem.W.notCls; rw [e4] <;> rfl, by rw [e3]; exact ho⟩
  exact HandSPX.exc_get I1.kIn J C.ga C.gg C.su (PySem.W.findObj_own hd no rfl (by rw [hl, hu])) (handed_of ru) ⟨v, H1, I1.tok _, ru, q⟩
end Sl

set_option Elab.async false
set_option linter.all false
set_option maxRecDepth 100000
set_option maxHeartbeats 1000000
/-! ## A class over KeyError, which has no maker of its own: made by LookupError's -/
namespace PySem.KeX
open PySem PySem.W PySem.Calls PyProof.Rows PySem.HandSPX
/-- what the maker of B asks of the classes behind the made one -/
structure Tail (B : String) (bm : List Value) : Prop where
  b : bm.contains (.type B) = true
  a : bm.contains (.type "AttributeError") = false
  n : bm.contains (.type "NameError") = false
section
variable {M : Model} {prog : Program} {w : World} {A : Around} {E : Value → Shared → Prop} {R : Result → Shared → Prop} {h : Heap} {g : Array GenState} {d : Drawn} {t : Nat} {os : OsState}
variable {nm q : Str} {C N : Addr} {bs bm bmB : List Value} {hdct : Bool} {sn : List Str} {sub : List Value} {ab : Bool} {col : Option Bool} {dd : Option Addr} {k0 k1 k2 k3 k5 : Option Value} {B newId initId : String}
theorem asked (F : ExcBaseFacts B newId initId bmB) (T : Tail B bm) {us : List Value} {Q : Unit → Shared → Prop} (cO : h.get? C = some (excClassObj nm q C N bs bm hdct sn sub ab col dd k0 k1 k2 k3 k5 newId)) (z : Q () ⟨h, g, d, t, os⟩) :
    wpAny M A (checkBuiltinCall newId ⟨.ref C :: us, []⟩) Q E ⟨h, g, d, t, os⟩ := by
  have inB : (Value.ref C :: bm).contains (.type B) = true := by
    rw [List.contains_cons, T.b]
    simp
  have star := F.noStar
  simp only [checkBuiltinCall, F.newKind, F.newSplit, F.newRow]
  repeat (first
    | refine wpAny_loadPart_at cO ?_
    | (refine wpAny_isSubtype_exc cO ?_; rw [inB])
    | refine wpAny_staticBase_exc cO ?_
    | refine wpAny_madeBy_exc cO ?_
    | simp only [bne_self_eq_false, Bool.false_eq_true, if_false]
    | wp_step)
  exact z
theorem laid (F : ExcBaseFacts B newId initId bmB) (T : Tail B bm) {us : List Value} (cO : h.get? C = some (excClassObj nm q C N bs bm hdct sn sub ab col dd k0 k1 k2 k3 k5 newId)) (hu : us.length ≤ sizeLine)
    (z : R (.ok (.ret (.ref (h.objs.size + 1)))) ⟨(h.push (kdv_tup us)).push (excO C h.objs.size), g, d, t, os⟩) :
    codeAny (model prog w) A (.builtin newId ⟨.ref C :: us, []⟩) R ⟨h, g, d, t, os⟩ := by
  have ends := F.ends
  have inB : (Value.ref C :: bm).contains (.type B) = true := by
    rw [List.contains_cons, T.b]
    simp
  have inA : (Value.ref C :: bm).contains (.type "AttributeError") = false := by
    rw [List.contains_cons, T.a]
    rfl
  have inN : (Value.ref C :: bm).contains (.type "NameError") = false := by
    rw [List.contains_cons, T.n]
    rfl
  refine codeAny_builtinAt F.entry ?_
  unfold Builtin.«BaseException.__new__»
  refine wpAt_bind ?_
  show wpAt _ _ _ (stack >>= _) _ _ _
  refine wpAt_bind (wpAt_stack fun p below => wpAt_of_wpAny ?_)
  wp_walk
  refine wpAt_of_wpAny ?_
  rw [F.owner]
  repeat (first
    | with_reducible refine wpAny_madeHere_exc F.canon cO ?_
    | with_reducible refine wpAny_loadPart_at cO ?_
    | (with_reducible refine wpAny_isSubtype_exc cO ?_; first | rw [inB] | rw [inA] | rw [inN])
    | wp_step)
  show R _ _
  rw [Heap.size_push]
  exact z
theorem made (F : ExcBaseFacts B newId initId bmB) (T : Tail B bm) {us : List Value} {fI : Addr} (cO : h.get? C = some (excClassObj nm q C N bs bm hdct sn sub ab col dd k0 k1 k2 k3 k5 newId))
    (hi : Looks (model prog w) h (typeLookup (.ref C) "__init__") (some (.ref fI))) (hb : ∀ self, Looks (model prog w) h (bindSpecial (.ref fI) self) (.ref fI, [self])) (hu : us.length ≤ sizeLine)
    (z : codeAny (model prog w) (A.under (.builtin "type.__call__" ⟨.ref C :: us, []⟩)) (.call (.ref fI) ⟨.ref (h.objs.size + 1) :: us, []⟩) (InitBack (h.objs.size + 1) R) ⟨(h.push (kdv_tup us)).push (excO C h.objs.size), g, d, t, os⟩) :
    codeAny (model prog w) A (.call (.ref C) ⟨us, []⟩) R ⟨h, g, d, t, os⟩ := by
  have l1 := tc_lookup
  have l2 := tc_bind (.ref C)
  have ty : (⟨h, g, d, t, os⟩ : Shared).TypeIs (.ref C) "type" := ⟨_, cO, rfl⟩
  refine codeAny_of_tree ?_
  show wpAny _ _ (callAny (.ref C) _) _ _ _
  repeat (any_goals (first
    | assumption
    | with_reducible refine wpAny_loadPart_at cO ?_
    | wp_step))
  refine ⟨rfl, ?_⟩
  refine codeAny_call_builtin_at (Code.quiet_builtin _ (by decide +kernel)) entry_typeCall (wpAny_check_type_call_sub cO ?_)
  show wpAny _ _ (Builtin.«type.__call__» ⟨.ref C :: us, []⟩) _ _ _
  repeat (first
    | with_reducible refine wpAny_loadPart_at cO ?_
    | with_reducible refine wpAny_madeBy_exc cO ?_
    | wp_step)
  refine codeAny_call_builtin_code (Code.quiet_builtin _ F.quiet) (asked F T cO (laid F T cO hu ?_))
  show wpAny _ _ _ _ _ _
  have keep : ∀ b o, h.get? b = some o → ((h.push (kdv_tup us)).push (excO C h.objs.size)).get? b = some o := fun b o e => Heap.get?_push_of_some _ (Heap.get?_push_of_some _ e)
  have cO2 := keep _ _ cO
  have there : ((h.push (kdv_tup us)).push (excO C h.objs.size)).get? (h.objs.size + 1) = some (excO C h.objs.size) := by heap_get
  have itself : (Value.ref C :: bm).contains (.ref C) = true := by simp
  have hi2 := hi.keeps keep
  have hb2 := (hb (.ref (h.objs.size + 1))).keeps keep
  unfold isInstance
  repeat (first
    | with_reducible refine wpAny_loadPart_at there ?_
    | (with_reducible refine wpAny_isSubtype_exc cO2 ?_; rw [itself])
    | wp_step)
  show wpAny _ _ (typeLookup (.ref C) _) _ _ _
  refine hi2.at (wpAny_holding (wpAny_bind (hb2.at ?_)))
  refine wpAny_bind (wpAny_call (codeAny_mono z fun r s' y => ?_))
  have y2 := y
  rcases r with e | (v | _ | _ | _) <;> first
    | exact y2
    | exact y2.elim
    | skip
  obtain ⟨rfl, y3⟩ := y2
  first
    | exact wpAny_pure (wpAny_pure y3)
    | (wp_walk; exact y3)
end
end PySem.KeX

set_option Elab.async false
set_option linter.all false
set_option maxRecDepth 100000
set_option maxHeartbeats 400000
/-! ## repr of a list whose items may be small dicts -/
namespace Sl
open PySem PySem.Spec PyProof.Rows L2
section
variable {prog : Program} {w : World} {A : Around} {E : Value → Shared → Prop} {s : Shared} {Q : Value → Shared → Prop} {a : Addr}
theorem repr_items {oa : Obj} {x : Value} {l : List Value} {n : Nat} {xs : List PyData} {bs : List Addr} (ha : s.heap.get? a = some oa) (hc : oa.cls = .type "list") (hd : oa.data = .seq (x :: l).toArray n) (r : ReadsAll s.heap (x :: l) xs bs)
    (sh : PyData.showableAll xs = true) (sm : PyData.hasDictAll xs = true → sysModules ∉ bs) (hg : A.guards = some []) (hu : A.units + (PyData.depthAll xs + 2) < cLine) (hz : (listText (PyData.shownAll xs)).length ≤ sizeLine)
    (q : ∀ h' u tk, (∀ b o, s.heap.get? b = some o → h'.get? b = some o) → Q (.str (listText (PyData.shownAll xs)) u) { s with heap := h', toks := tk }) :
    wpAny (model prog w) A (call (.builtin "repr") [.ref a]) Q E s := by
  obtain ⟨b2, hb, hk⟩ := ReprAllK.of_readsAll (prog := prog) (w := w) r sh sm fun t ht => Nat.le_trans (listText_mem_le ht) hz
  have all : Reads s.heap (.ref a) (.list xs) (a :: bs) := .list ha hc hd r
  have no : a ∉ b2 := not_mem_of_deeper all (by simp only [PyData.depth]; omega) hb
  refine call_repr_slot (by omega) ⟨oa, ha, hc⟩ F.slot_list_repr.toG ?_
  exact call_list_reprK ha hc hd no (by simpa using hk.length_eq) (fun i y e => hk.item i y (by simpa using e)) hg (fun b _ => Clear.nil b)
    (by show A.units + 1 + (PyData.depthAll xs + 1) < cLine; omega) (fun _ _ e => e) (fun h' u tk k => ⟨_, _, rfl, q h' u tk k⟩) hz
end
/-- what the law's things are: data without dicts, or one of two dicts -/
inductive Sw (K : PySem.W.Frag) (H : Hp) : V → PyData → Prop
  | dp {v : V} {d : PyData} : Dp K H v d → Sw K H v d
  | d0 {a : Addr} : H a = some (.dK []) → Sw K H (.ref a) (.dict [])
  | d1 {a : Addr} {x : Str} {i : Int} : H a = some (.dK [(.inr x, .int i)]) → Sw K H (.ref a) (.dict [(.str x, .int i)])
section
variable {X : Cx} {pins : List (Addr × Obj)} {σ : L2.St} {H : Hp} {s : Shared}
def encK : Key → PyData
  | .inl i => .int i
  | .inr x => .str x
theorem enc_key (h0 : Heap) (k : Key) (u : Value) (h : (mixKind X.prog X.w).is k u = true) : Reads h0 u (encK k) [] := by
  rcases keyIs_shape (show keyIs k u = true from h) with ⟨i, t, rfl, rfl⟩ | ⟨x, t, rfl, rfl⟩
  · exact .int i t
  · exact .str x t
theorem Sw.reads (I : Inv X pins σ H s) {v : V} {d : PyData} {u : Value} (h : Sw X.K H v d) (ru : RelV v u) : ∃ as, Reads s.heap u d as ∧ (d.hasDict = true → sysModules ∉ as) := by
  cases h with
  | dp hd =>
    obtain ⟨as, r⟩ := Dp.reads I d v u hd ru
    exact ⟨as, r, fun z => by rw [noDict d v hd] at z; cases z⟩
  | @d0 a e =>
    cases ru
    obtain ⟨_, ne, vs, kv, dd⟩ := dk_of I.hok e
    cases kv
    refine ⟨_, PyProof.V.reads_dictOf (enc := encK) (fun k u h => enc_key (X := X) _ k u h) dd .nil, fun _ z => ?_⟩
    rw [List.mem_singleton] at z
    rw [z] at ne
    simp at ne
  | @d1 a x i e =>
    cases ru
    obtain ⟨_, ne, vs, kv, dd⟩ := dk_of I.hok e
    cases kv with
    | @cons _ p _ ps hp hr =>
      cases hr
      obtain ⟨k, u⟩ := p
      obtain ⟨ek, t, eu⟩ := hp
      dsimp only at ek eu
      subst ek eu
      refine ⟨_, PyProof.V.reads_dictOf (enc := encK) (fun k u h => enc_key (X := X) _ k u h) dd (.cons (.int i t) .nil), fun _ z => ?_⟩
      simp at z
      rw [← z] at ne
      simp at ne
theorem rep_reads (I : Inv X pins σ H s) {d : PyData} : ∀ {vs : List V} {us : List Value}, (∀ v ∈ vs, Sw X.K H v d) → Vals vs us → ∃ as, ReadsAll s.heap us (List.replicate vs.length d) as ∧ (d.hasDict = true → sysModules ∉ as)
  | [], _, _, .nil => ⟨[], .nil, fun _ z => by cases z⟩
  | v :: vs, _, h, .cons r rs => by
    obtain ⟨as, r1, n1⟩ := Sw.reads I (h v List.mem_cons_self) r
    obtain ⟨bs, r2, n2⟩ := rep_reads I (fun x hx => h x (List.mem_cons_of_mem _ hx)) rs
    refine ⟨as ++ bs, .cons r1 r2, fun z hz => ?_⟩
    rcases List.mem_append.mp hz with q | q
    · exact n1 z q
    · exact n2 z q
theorem rep_dict (d : PyData) : ∀ n, PyData.hasDictAll (List.replicate n d) = true → d.hasDict = true
  | 0, h => by simp [PyData.hasDictAll] at h
  | n + 1, h => by
    rw [List.replicate_succ] at h
    simp only [PyData.hasDictAll, Bool.or_eq_true] at h
    rcases h with h | h
    · exact h
    · exact rep_dict d n h
end
/-- repr([v, ..]), all items of one reading -/
def rReprL (K : PySem.W.Frag) : List V → Hp → VK → Prop := fun xs H Q => ∃ (p : Addr) (v : V) (vs : List V) (d : PyData), xs = [.ref p] ∧ H p = some (.lst (v :: vs)) ∧ (∀ x ∈ v :: vs, Sw K H x d) ∧ PyData.showableAll (List.replicate (v :: vs).length d) = true ∧
  PyData.depthAll (List.replicate (v :: vs).length d) ≤ 40 ∧ (listText (PyData.shownAll (List.replicate (v :: vs).length d))).length ≤ sizeLine ∧ Q (.str (listText (PyData.shownAll (List.replicate (v :: vs).length d)))) H
theorem call_reprL {X : Cx} {k : Nat} (hG : X.A.guards = some []) (hr : Room k X.A) : CallR X (.builtin "repr") (rReprL X.K) := by
  intro pins z σ H xs us Q I r h
  obtain ⟨p, v, vs, d, rfl, hp, hs, sh, hd, hz, q⟩ := h
  obtain ⟨u, rfl, ru⟩ := vals1 r
  cases ru
  have hu := hr.units
  obtain ⟨_, its, n, rv, ho⟩ := (show ObjOk X.prog X.w H z.heap p (.lst (v :: vs)) from I.hok p _ hp)
  obtain ⟨as, ra, ns⟩ := rep_reads I hs rv
  cases rv with
  | @cons _ y _ ys h1 h2 =>
    exact repr_items ho rfl rfl ra sh (fun e => ns (rep_dict d _ e)) hG (by omega) hz fun h' u tk hk => ⟨.str _, H, I.kept hk, ⟨u, rfl⟩, q⟩
end Sl

set_option Elab.async false
set_option linter.all false
set_option maxRecDepth 100000
set_option maxHeartbeats 400000
/-! ## lists of such values compared (as in P17o) -/
namespace Sl
open PySem PySem.Spec PyProof.Rows L2
section
variable {K : PySem.W.Frag}
theorem rNe_lst {H : Hp} {p r : Addr} {vs us : List V} {ds : List D} {Q : VK} (l1 : H p = some (.lst vs)) (l2 : H r = some (.lst us)) (r1 : RddAll K H vs ds) (r2 : RddAll K H us ds) (g : D.goods ds = true) (hd : D.deps ds ≤ 40) (q : Q (.bl false) H) : rNeD K (.ref p) (.ref r) H Q := by
  have h1 := deps_py ds
  have c : (PyData.list (D.pys ds)).canLay0 = true := by
    simp only [PyData.canLay0]
    exact (goods_show ds g).2
  have s : SeqAt.shaped (.list (D.pys ds)) = true := by
    unfold SeqAt.shaped
    rw [c, decide_eq_true (show (PyData.list (D.pys ds)).depth ≤ 64 by simp only [PyData.depth]; omega)]
    rfl
  refine ⟨.list (D.pys ds), .list (D.pys ds), .lst (SqL.of l1) (RddAll.dp ds g r1), .lst (SqL.of l2) (RddAll.dp ds g r2), s, s, ?_⟩
  rw [SeqAt.eqv_refl _ c]
  exact q
theorem rEq_lst {H : Hp} {p r : Addr} {vs us : List V} {ds : List D} {Q : VK} (l1 : H p = some (.lst vs)) (l2 : H r = some (.lst us)) (r1 : RddAll K H vs ds) (r2 : RddAll K H us ds) (g : D.goods ds = true) (hd : D.deps ds ≤ 40) (q : Q (.bl true) H) : rEqD K (.ref p) (.ref r) H Q := by
  have h1 := deps_py ds
  have c : (PyData.list (D.pys ds)).canLay0 = true := by
    simp only [PyData.canLay0]
    exact (goods_show ds g).2
  have s : SeqAt.shaped (.list (D.pys ds)) = true := by
    unfold SeqAt.shaped
    rw [c, decide_eq_true (show (PyData.list (D.pys ds)).depth ≤ 64 by simp only [PyData.depth]; omega)]
    rfl
  refine ⟨.list (D.pys ds), .list (D.pys ds), .lst (SqL.of l1) (RddAll.dp ds g r1), .lst (SqL.of l2) (RddAll.dp ds g r2), s, s, ?_⟩
  rw [SeqAt.eqv_refl _ c]
  exact q
end
end Sl

set_option Elab.async false
set_option linter.all false
set_option maxRecDepth 100000
set_option maxHeartbeats 400000
/-! ## for i, x in enumerate(xs) -/
namespace Sl
open PySem PySem.Spec PyProof.Rows L2
theorem op_powW {X : Cx} : OpR X (binaryOp .Pow) (rI (fun i j => 0 ≤ j ∧ (Builtin.Int.intBits i : Int) * j ≤ 2 ^ 27) fun i j => .int (i ^ j.toNat)) := opI fun _ _ _ _ _ _ _ hc q => pow_int hc.1 hc.2 q
theorem yes {σ : L2.St} {H : Hp} {A B : Hp → Prop} (h : A H) : tYes σ H (fun b H3 => if b = true then A H3 else B H3) := by
  show (if true = true then A H else B H)
  rw [if_pos rfl]
  exact h
theorem bools_rdd {K : PySem.W.Frag} {H : Hp} : ∀ bs : List Bool, RddAll K H (bs.map V.bl) (bs.map D.bl)
  | [] => .nil
  | b :: bs => .cons (.bl b) (bools_rdd bs)
theorem bools_good : ∀ bs : List Bool, D.goods (bs.map D.bl) = true ∧ D.deps (bs.map D.bl) ≤ 40
  | [] => by simp [D.goods, D.deps]
  | b :: bs => by
    have h := bools_good bs
    simp only [List.map_cons, D.goods, D.good, D.deps, D.dep, Bool.true_and]
    exact ⟨h.1, by omega⟩
theorem for_enum {K : PySem.W.Frag} {a : Addr} {xs : List V} {g : TG} {tb : TS} {D : Ends} {σ : L2.St} {H : Hp} (Pv : Nat → L2.St → Hp → Prop) (first : Pv 0 σ H) (there : ∀ i σ H, i ≤ xs.length → Pv i σ H → SqL K H a xs)
    (turn : ∀ i x σ H p, xs[i]? = some x → Pv i σ H → H p = none → g (.ref p) σ (upd H p (.tup [.int (i : Nat), x])) fun σ2 H2 => tb { D with nx := Pv (i + 1), ct := Pv (i + 1), bk := D.nx } σ2 H2)
    (last : ∀ σ H, Pv xs.length σ H → D.nx σ H) :
    ∃ W : Nat → Nat → L2.St → Hp → Prop, (∃ m, W 0 m σ H) ∧ ∀ i m σ H, W i m σ H →
      ((Ite K a).stop i H ∧ D.nx σ H) ∨ ((Ite K a).go i H ∧ ∃ N : L2.St → Hp → Prop, (∀ σ' H', N σ' H' → ∃ m', m' < m ∧ W (i + 1) m' σ' H') ∧ ∀ x H', (Ite K a).yld i H x H' → g x σ H' fun σ2 H2 => tb { D with nx := N, ct := N, bk := D.nx } σ2 H2) := by
  refine ⟨fun i m σ H => m + i = xs.length ∧ Pv i σ H, ⟨xs.length, rfl, first⟩, ?_⟩
  rintro i m σ H ⟨em, pv⟩
  have sq := there i σ H (by omega) pv
  cases m with
  | zero =>
    have e : i = xs.length := by omega
    subst e
    exact .inl ⟨⟨xs, sq, Nat.le_refl _⟩, last σ H pv⟩
  | succ m =>
    have lt : i < xs.length := by omega
    have get : xs[i]? = some xs[i] := List.getElem?_eq_getElem lt
    refine .inr ⟨⟨xs, xs[i], sq, get⟩, Pv (i + 1), fun σ' H' p' => ⟨m, Nat.lt_succ_self m, by omega, p'⟩, fun y H' hy => ?_⟩
    obtain ⟨p, x, rfl, hp, rfl, hx⟩ := hy
    exact turn i x σ H p (hx xs sq) pv hp
end Sl

set_option Elab.async false
set_option linter.all false
set_option maxRecDepth 100000
set_option maxHeartbeats 400000
namespace Sl
open PySem PySem.Spec PyProof.Rows L2
/-- a thing whose text is short -/
def Th (K : PySem.W.Frag) (G : Hp) (v : V) : Prop := ∃ d, Sw K G v d ∧ PyData.showableAll (List.replicate 5 d) = true ∧ PyData.depthAll (List.replicate 5 d) ≤ 40 ∧ (listText (PyData.shownAll (List.replicate 5 d))).length ≤ sizeLine
theorem th_of {K : PySem.W.Frag} {G : Hp} {v : V} {d : PyData} (h : Sw K G v d) (s : d.showable = true) (dp : d.depth ≤ 30) (l : d.shown.length ≤ 1000) : Th K G v := by
  refine ⟨d, h, ?_, ?_, ?_⟩
  · simp only [List.replicate, PyData.showableAll, s, Bool.and_self]
  · simp only [List.replicate, PyData.depthAll]
    omega
  · have e := listText_len_le (PyData.shownAll (List.replicate 5 d))
    have h2 : sizeLine = 16777216 := sizeLine_eq
    simp only [List.replicate, PyData.shownAll, List.map_cons, List.map_nil, List.sum_cons, List.sum_nil, List.length_cons, List.length_nil] at e ⊢
    omega
theorem th_int {K : PySem.W.Frag} {G : Hp} {i : Int} (g : i.natAbs.log2 < 140) : Th K G (.int i) := by
  refine th_of (.dp (.int i)) ?_ (by simp [PyData.depth]) ?_
  · simp only [PyData.showable, decide_eq_true_eq]
    omega
  · simp only [PyData.shown_int]
    have e := int_text_length_le (k := 140) (by decide) g
    rw [PySem.ofString_length]
    omega
end Sl

set_option Elab.async false
set_option linter.all false
set_option maxRecDepth 100000
set_option maxHeartbeats 2000000
namespace PySem
namespace TmX
open PySem.W PySem.Calls PyProof.Rows PySem.HandSPX
/-! ### the text of __init__ -/
def iA (p1 p2 : Pos) : Arguments := { posonlyargs := [], args := [{ arg := "self", annotation := none, pos := p1 }, { arg := "limit", annotation := none, pos := p2 }], vararg := none, kwonlyargs := [], kw_defaults := [], kwarg := none, defaults := [] }
def iB (q1 q2 q3 q4 : Pos) : List Stmt := [.Assign [.Attribute (.Name "self" q1) "limit" q2] (.Name "limit" q3) q4]
def iS : Scope := { kind := .function, names := [(PySem.Str.ofString "self", .local), (PySem.Str.ofString "limit", .local)], isGenerator := false, isCoroutine := false, more := [] }
/-- what the written part says of TooMany, at C, and of its __init__, at fI -/
abbrev ovf : List Value := [.type "OverflowError", .type "ArithmeticError", .type "Exception", .type "BaseException", .type "object"]
structure TmTxt (K : Frag) (mg : Str → Option Value) (C fI : Addr) : Prop where
  gC : mg "TooMany" = some (.ref C)
  cls : ∃ nm q N bs bm sn sub ab col dd k0 k1 k2 k3 k5, K.lookup C = some (excClassObj nm q C N bs bm true sn sub ab col dd k0 k1 k2 k3 k5 "OverflowError.__new__") ∧ bm = ovf
  sa : findIn K (.ref C) "__setattr__" = some (some (.builtin "object.__setattr__"))
  ga : findIn K (.ref C) "__getattribute__" = some (some (.builtin "BaseException.__getattribute__"))
  gg : findIn K (.ref C) "__getattr__" = some none
  noN : findIn K (.ref C) "limit" = some none
  iC : findIn K (.ref C) "__init__" = some (some (.ref fI))
  tC : typeIn K (.ref fI) = some (.type "function")
  kC : keepIn K (.ref C) = true
  exC : subIn K (.ref C) (.type "BaseException") = some true
  tyC : typeIn K (.ref C) = some (.type "type")
  hdC : hasDictIn K C = true
  te : exmOne K (.ref C) (.ref C) = some true
  fn : ∃ (oc : Value) (od : Option Addr) (doc pm : Value) (an : Option Addr) (cdv ct : Value) (osl : Array (Option Value)) (p1 p2 q1 q2 q3 q4 : Pos),
    K.lookup fI = some ⟨oc, od, .func (fnOf "__init__" "TooMany.__init__" (iA p1 p2) (iB q1 q2 q3 q4) iS .none .none doc pm an cdv ct), osl⟩ ∧ codeIn K cdv "TooMany.__init__" = true
theorem one_size (v : Value) : [v].length ≤ sizeLine := by
  rw [sizeLine_eq]
  exact (by decide : 1 ≤ 16777216)
theorem kept_but {K : Frag} {h h' : Heap} {x : Addr} (X : K.In h) (hx : K.lookup x = none) (k : ∀ b o, b ≠ x → h.get? b = some o → h'.get? b = some o) : K.In h' := fun a o e =>
  k a o (fun z => by rw [z, hx] at e; cases e) (X a o e)
theorem ldC {M : Model} {s : Shared} {name : Str} {scope : Scope} {L a : Addr} {cd : Value} {m : Str → Option Value} {x : Str} {pos : Pos} {v : Value} {Q : Value → Shared → Prop} {A : Around} {E : Value → Shared → Prop} (hn : s.heap.Ns L m) (hv : m x = some v) (h : Q v s)
    (hk : scope.kind = .function := by rfl) (hl : (envOfC name scope L a cd).kindOf x = some .local := by rfl) (hd : (x == ("__debug__" : Str)) = false := by decide) :
    wpAny M A (eval (.Name x pos) (envOfC name scope L a cd)) Q E s := wpAny_Name (wpAny_loadName_local hk hl hn hv h) hd
/-- what __init__ leaves of a fresh exception at x -/
structure InitEnd (h h' : Heap) (x C dx t1 : Addr) (v : Value) : Prop where
  keep : ∀ b o, b ≠ x → h.get? b = some o → h'.get? b = some o
  obj : h'.get? x = some { cls := .ref C, dict := some dx, data := .fields #[.ref t1, .none, .none, .none, .bool false, .none] }
  dbig : h.objs.size ≤ dx
  dne : dx ≠ x
  ns : h'.Ns1 dx (fun y => if y = "limit" then some v else none)
/-- a made Low -/
structure OwnMade (h h' : Heap) (e C d : Addr) (v : Value) : Prop where
  keep : ∀ b o, h.get? b = some o → h'.get? b = some o
  new : h.objs.size ≤ e
  obj : ∃ oe vs, h'.get? e = some oe ∧ oe.cls = .ref C ∧ oe.dict = some d ∧ oe.data = .fields vs ∧ vs[1]? = some .none
  dbig : h.objs.size ≤ d
  dne : d ≠ e
  ns : h'.Ns1 d (fun y => if y = "limit" then some v else none)
section
variable {prog : Program} {w : World} {A : Around} {E : Value → Shared → Prop} {R : Result → Shared → Prop} {s : Shared} {K : Frag} {mg : Str → Option Value} {C fI : Addr}
theorem tm_init (T : TmTxt K mg C fI) {x t0 : Addr} {v : Value} (X : K.In s.heap) (hlim : s.heap.NoLimit) (hx : s.heap.get? x = some (excO C t0)) (hnx : K.lookup x = none) (hroom : A.depth < recursionLimit)
    (hq : ∀ h' tk dx, InitEnd s.heap h' x C dx t0 v → R (.ok (.ret .none)) { s with heap := h', toks := tk }) :
    codeAny (model prog w) A (.call (.ref fI) ⟨[.ref x, v], []⟩) R s := by
  obtain ⟨oc, od, doc, pm, an, cdv, ct, osl, p1, p2, q1, q2, q3, q4, ho, hcd⟩ := T.fn
  obtain ⟨nm, q, N, bs, bm, sn, sub, ab, col, dd, k0, k1, k2, k3, k5, hC, hbm⟩ := T.cls
  have hcl : clsIn K C = some { name := nm, bases := bs, mro := .ref C :: bm, ns := N, qualname := q, hasDict := true, slotNames := sn, subclasses := sub, abstract := ab, collection := col, hasDel := false } := by unfold clsIn; rw [hC] <;> rfl
  refine Att.call_fn (binds := [("self", .ref x), ("limit", v)]) X hlim ho hcd hroom (BindsTo.of_eq (by first | rfl | with_unfolding_all rfl)) (by first | rfl | decide | with_unfolding_all rfl) (fun s₁ IC => ?_) rfl rfl rfl
  obtain ⟨h₁, tk₁, rfl⟩ := IC.toInCall.same
  have k : ∀ b o, s.heap.get? b = some o → h₁.get? b = some o := IC.toInCall.keep
  have hn := IC.toInCall.ns
  have hxL : s.heap.objs.size ≠ x := Nat.ne_of_gt (Heap.lt_size hx)
  have X₁ : K.In h₁ := X.keeps k
  have hx₁ := k _ _ hx
  -- self.by = by
  show wpAny _ _ (execs _ _) _ _ _
  refine wpAny_execs_cons (plainObj_wpAny_Assign_Attribute ?_)
  refine ldC (v := v) hn (by first | rfl | with_unfolding_all rfl | kernel_rfl) (ldC (v := .ref x) hn (by first | rfl | with_unfolding_all rfl | kernel_rfl) ?_)
  refine set_plain X₁ (ox := excO C t0) (od := none) ⟨hx₁, rfl, rfl, trivial⟩ T.sa ?_
  refine ErX.osa_first X₁ hx₁ hcl (fun self => by
    show refuseLoop self "__setattr__" (.ref C :: bm) = pure ()
    rw [refuseLoop_ref, hbm]
    exact F.store_OverflowError.passes self) rfl (by
    show (Value.ref C :: bm).contains (.type "object") = true
    rw [hbm]
    rfl) rfl T.noN (fun h₃ tk₃ dx k₃ dn dne hx₃ hn₃ => ?_)
  show wpAny _ _ (execs _ _) _ _ _
  have z : s.heap.objs.size < h₁.objs.size := hn.lt
  exact wpAny_execs_nil (hq h₃ tk₃ dx ⟨fun b o hb e => k₃ b o hb (k b o e), hx₃, Nat.le_of_lt (Nat.lt_of_lt_of_le z dn), dne, hn₃⟩)
theorem tm_made (T : TmTxt K mg C fI) {v : Value} (X : K.In s.heap) (hlim : s.heap.NoLimit) (hroom : A.depth + 1 < recursionLimit)
    (hq : ∀ h' tk e d, OwnMade s.heap h' e C d v → R (.ok (.ret (.ref e))) { s with heap := h', toks := tk }) :
    codeAny (model prog w) A (.call (.ref C) ⟨[v], []⟩) R s := by
  obtain ⟨nm, q, N, bs, bm, sn, sub, ab, col, dd, k0, k1, k2, k3, k5, hC, hbm⟩ := T.cls
  obtain ⟨hp, g, dr, tk, os⟩ := s
  have k : ∀ b o, hp.get? b = some o → ((hp.push (kdv_tup [v])).push (excO C hp.objs.size)).get? b = some o := fun b o e => Heap.get?_push_of_some _ (Heap.get?_push_of_some _ e)
  have hget : ((hp.push (kdv_tup [v])).push (excO C hp.objs.size)).get? (hp.objs.size + 1) = some (excO C hp.objs.size) := by heap_get
  have hnx : K.lookup (hp.objs.size + 1) = none := by
    cases e : K.lookup (hp.objs.size + 1) with
    | none => rfl
    | some o =>
      have z : hp.get? (hp.objs.size + 1) = some o := X _ _ e
      exact absurd (Nat.lt_of_succ_lt (Heap.lt_size z)) (Nat.lt_irrefl _)
  refine call_own F.excBase_OverflowError (fun X => by rw [hbm]) (X _ _ hC) (looks_findIn X T.iC) (fun self => bind_fn X self T.tC) (one_size v) ?_
  refine tm_init (s := ⟨(hp.push (kdv_tup [v])).push (excO C hp.objs.size), g, dr, tk, os⟩) T (X.keeps k) (hlim.keeps k) hget hnx ?_ fun h' tk' dx ⟨k', hx, dn, dne, hns⟩ => ?_
  · show A.depth + 1 < recursionLimit
    exact hroom
  · have old : ∀ b o, hp.get? b = some o → h'.get? b = some o := fun b o e => k' b o (Nat.ne_of_lt (Nat.lt_succ_of_lt (Heap.lt_size e))) (k b o e)
    have z : hp.objs.size + 1 + 1 ≤ dx := by
      first
        | (simpa only [Heap.size_push] using dn)
        | exact dn
        | (have q := dn; rw [Heap.size_push, Heap.size_push] at q; exact q)
    exact ⟨rfl, hq h' tk' (hp.objs.size + 1) dx ⟨old, Nat.le_succ _, ⟨_, _, hx, rfl, rfl, rfl, rfl⟩, Nat.le_trans (Nat.le_trans (Nat.le_succ _) (Nat.le_succ _)) z, dne, hns⟩⟩
end
end TmX
end PySem
namespace L2
open PySem PySem.Spec PyProof.Rows
theorem relO_tm {v : V} {v' : Value} (r : RelV v v') (f : Str) : RelO (List.lookup f [(("limit" : Str), v)]) (if f = "limit" then some v' else none) := by
  by_cases hw : f = "limit"
  · subst hw
    rw [if_pos rfl]
    have q : List.lookup ("limit" : Str) [(("limit" : Str), v)] = some v := by simp [List.lookup]
    rw [q]
    exact r
  · rw [if_neg hw]
    have qw : (f == ("limit" : Str)) = false := by simpa using hw
    have q2 : List.lookup f [(("limit" : Str), v)] = none := by simp [List.lookup, qw]
    rw [q2]
    trivial
section
variable {X : Cx} {C fI : Addr}
/-- Low(e) -/
def tMkTm (C : Addr) (ta : TA) : St → Hp → XK → Prop := fun σ H Q => ta σ H fun vs H1 => ∃ v, vs = [v] ∧ ∀ d, H1 d = none → Q (.ref C) (some d) (upd H1 d (.xd [(("limit" : Str), v)]))
theorem pmk_tm {a : Expr} {ta : TA} {p pos : Pos} {k : Nat} (T : PySem.TmX.TmTxt X.K X.mg C fI) (hr : Room k X.A) (ha : PA X [a] ta) (hg : Gl X "TooMany" := by rfl)
    (he : starEach (a :: []) X.env = (false, eval a X.env) :: starEach [] X.env := by rfl) (hpl : (backTo pos (starEach [] X.env)).any (·.1) = false := by rfl) :
    PMk X (.Call (.Name "TooMany" p) [a] [] pos) (tMkTm C ta) := by
  intro pins s σ H Q I h
  refine wpAny_Call_Name_kw (ld_glob I hg T.gC ?_)
  refine PySem.W.callWith_K (h₀ := X.base) I.ok.mod.kin T.kC (thn (ha.run pos pins s σ H _ I h) fun us s1 hh => ?_) he hpl
  obtain ⟨vs, H1, I1, r1, v, ev, q1⟩ := hh
  subst ev
  refine ⟨I1.kIn, ?_⟩
  cases r1 with
  | cons rv rn =>
    rename_i v' us'
    cases rn
    show wpAny _ _ (call (.ref C) [v']) _ _ _
    have hlim := I1.nolimit
    obtain ⟨hp, g, dr, tk, os⟩ := s1
    refine wpAny_call (PySem.TmX.tm_made T I1.kIn hlim (by have := hr.dp; omega) fun h' tk' e d M => ?_)
    show MkP X pins σ Q (.ref e) ⟨h', g, dr, tk', os⟩
    obtain ⟨oe, fv, hoe, hc, hd, hdat, h1⟩ := M.obj
    have hns := M.ns
    obtain ⟨G', g1, g2⟩ := restrict h' fun b => decide (b ≠ e)
    have gk : ∀ b, b ≠ e → G'.get? b = h'.get? b := fun b hb => g1 b (decide_eq_true hb)
    have ge : G'.get? e = none := g2 e (by simp)
    have old : ∀ b o, hp.get? b = some o → G'.get? b = some o := fun b o q => (gk b (Nat.ne_of_lt (Nat.lt_of_lt_of_le (Heap.lt_size q) M.new))).trans (M.keep b o q)
    have ob : ObjOk X.prog X.w (upd H1 d (.xd [(("limit" : Str), v)])) G' d (.xd [(("limit" : Str), v)]) :=
      ⟨_, hns.at (fun o q => (gk d M.dne).trans q), fun f => relO_tm rv f⟩
    have J : Inv X pins σ (upd H1 d (.xd [(("limit" : Str), v)])) ⟨G', g, dr, tk', os⟩ := I1.laid (t' := tk') old M.dbig ob
    refine ⟨e, oe, fv, ⟨G', g, dr, tk', os⟩, _, .ref C, some d, rfl, J, fun b o q => ?_, ge, hoe, ⟨hc, hd⟩, hdat, h1, ?_, rfl, I1.bare, raises_own T.exC T.tyC, q1 d (I1.hok.fresh M.dbig)⟩
    · by_cases hb : b = e
      · have q' : G'.get? b = some o := q
        rw [hb, ge] at q'; cases q'
      · exact (gk b hb).symm.trans q
    · rw [upd_ne (Ne.symm M.dne)]
      exact I1.hok.fresh M.new
/-- raise Low(e) -/
def tRaiseTm (C : Addr) (W : WX) (ta : TA) : TS := fun _ σ H => tMkTm C ta σ H fun cls d H' => W cls d σ H'
theorem ps_raiseTm {a : Expr} {ta : TA} {W : WX} {p pos pos2 : Pos} {k : Nat} (hc : X.calm = true) (T : PySem.TmX.TmTxt X.K X.mg C fI) (hr : Room k X.A) (tk : Takes X W) (ha : PA X [a] ta) (hg : Gl X "TooMany" := by rfl)
    (he : starEach (a :: []) X.env = (false, eval a X.env) :: starEach [] X.env := by rfl) (hpl : (backTo pos (starEach [] X.env)).any (·.1) = false := by rfl) :
    PS X (.Raise (some (.Call (.Name "TooMany" p) [a] [] pos)) none pos2) (tRaiseTm C W ta) := ps_raise hc tk (pmk_tm T hr ha hg he hpl)
/-- low.by, low the exception that the suite holds (at a; its class cls, its dict d) -/
def tByTm (C : Addr) (a : Addr) (cls : Value) (d : Option Addr) (te : TE) : TE := fun σ H Q => te σ H fun x H1 => x = .ref a ∧ cls = .ref C ∧ ∃ (dd : Addr) (v : V), d = some dd ∧ H1 dd = some (.xd [(("limit" : Str), v)]) ∧ Q v H1
theorem pe_byTm {a : Addr} {oe : Obj} {cls : Value} {d : Option Addr} {pn : List (Addr × Obj)} {e : Expr} {te : TE} {pos : Pos} (T : PySem.TmX.TmTxt X.K X.mg C fI) (hz : Zc cls d oe) (hf : ∃ vs, oe.data = .fields vs) (he : PE (X.suite a ((a, oe) :: pn)) e te)
    (hb : attributeBase e "limit" X.env (eval e X.env) = eval e X.env := by rfl) :
    PE (X.suite a ((a, oe) :: pn)) (.Attribute e "limit" pos) (tByTm C a cls d te) := by
  refine ⟨fun pins s σ H Q I h => ?_⟩
  refine attr_of hb (thn (he.run pins s σ H _ I h) fun u s1 hh => ?_)
  obtain ⟨x, H1, I1, rx, ex, ec, dd, v, ed, ea, q⟩ := hh
  subst ex
  obtain rfl : u = Value.ref a := rx
  subst ec
  subst ed
  obtain ⟨ha, _⟩ := I1.pin (a, oe) (List.mem_append_left _ List.mem_cons_self)
  obtain ⟨vs, hd⟩ := hf
  have hx : ObjOk X.prog X.w H1 s1.heap dd (.xd [(("limit" : Str), v)]) := I1.hok dd _ ea
  obtain ⟨mA, hns, hr⟩ := hx
  obtain ⟨od, ho, hl⟩ := lookIn_ns hns
  have l : List.lookup ("limit" : Str) [(("limit" : Str), v)] = some v := by simp [List.lookup]
  obtain ⟨u, hu, ru⟩ := RelO.some_of (v := v) (o := mA "limit") (by rw [← l]; exact hr "limit")
  have J : PySem.W.InstAt s1.heap a oe C (some od) := ⟨ha, hz.1, by unfold PySem.W.notCls; rw [hd] <;> rfl, by rw [hz.2]; exact ho⟩
  exact HandSPX.exc_get I1.kIn J T.ga T.gg T.exC (PySem.W.findObj_own T.hdC T.noN rfl (by rw [hl, hu])) (handed_of ru) ⟨v, H1, I1.tok _, ru, q⟩
end
end L2

namespace L2
open PySem PySem.Spec PyProof.Rows
/-- an if whose test is known -/
theorem if_true_of {c : Bool} {A B : Prop} (hc : c = true) (h : A) : if c = true then A else B := by
  rw [if_pos hc]
  exact h
theorem if_false_of {c : Bool} {A B : Prop} (hc : c = false) (h : B) : if c = true then A else B := by
  rw [hc, if_neg Bool.false_ne_true]
  exact h
end L2

set_option Elab.async false
set_option linter.all false
set_option maxRecDepth 100000
set_option maxHeartbeats 400000
namespace Sl
open PySem PySem.Spec PyProof.Rows L2
section
variable {X : Cx} {C fI : Addr}
/-- TooMany(e), as a value -/
theorem pe_tmV {a : Expr} {ta : TA} {p pos : Pos} {k : Nat} (T : PySem.TmX.TmTxt X.K X.mg C fI) (hr : Room k X.A) (ha : PA X [a] ta) (hg : Gl X "TooMany" := by rfl)
    (he : starEach (a :: []) X.env = (false, eval a X.env) :: starEach [] X.env := by rfl) (hpl : (backTo pos (starEach [] X.env)).any (·.1) = false := by rfl) :
    PE X (.Call (.Name "TooMany" p) [a] [] pos) (fun σ H Q => ta σ H fun vs H1 => ∃ v, vs = [v] ∧ ∀ a d, H1 a = none → H1 d = none → a ≠ d → Q (.ref a) (upd (upd H1 d (.xd [(("limit" : Str), v)])) a (EO C (some d) a))) := by
  refine ⟨fun pins s σ H Q I h => ?_⟩
  refine wpAny_Call_Name_kw (ld_glob I hg T.gC ?_)
  refine PySem.W.callWith_K (h₀ := X.base) I.ok.mod.kin T.kC (thn (ha.run pos pins s σ H _ I h) fun us s1 hh => ?_) he hpl
  obtain ⟨vs, H1, I1, r1, v, ev, q1⟩ := hh
  subst ev
  refine ⟨I1.kIn, ?_⟩
  obtain ⟨v', rfl, rv⟩ := r1.one
  show wpAny _ _ (call (.ref C) [v']) _ _ _
  have hlim := I1.nolimit
  obtain ⟨hp, g, dr, tk, os⟩ := s1
  refine wpAny_call (PySem.TmX.tm_made T I1.kIn hlim (by have := hr.dp; omega) fun h' tk' e d M => ?_)
  obtain ⟨oe, fv, hoe, hc, hd, hdat, h1⟩ := M.obj
  obtain ⟨G, g1, g2⟩ := restrict h' fun b => decide (b ≠ e)
  have gk : ∀ b, b ≠ e → G.get? b = h'.get? b := fun b hb => g1 b (decide_eq_true hb)
  have ge : G.get? e = none := g2 e (by simp)
  have old : ∀ b o, hp.get? b = some o → G.get? b = some o := fun b o q => (gk b (Nat.ne_of_lt (Nat.lt_of_lt_of_le (Heap.lt_size q) M.new))).trans (M.keep b o q)
  have ob : ObjOk X.prog X.w (upd H1 d (.xd [(("limit" : Str), v)])) G d (.xd [(("limit" : Str), v)]) := ⟨_, M.ns.at (fun o q => (gk d M.dne).trans q), fun f => relO_tm rv f⟩
  have J : Inv X pins σ (upd H1 d (.xd [(("limit" : Str), v)])) ⟨G, g, dr, tk', os⟩ := I1.laid (t' := tk') old M.dbig ob
  have fe : H1 e = none := I1.hok.fresh M.new
  have fd : H1 d = none := I1.hok.fresh M.dbig
  have back : ∀ b o, G.get? b = some o → h'.get? b = some o := fun b o q => by
    by_cases hb : b = e
    · rw [hb, ge] at q
      cases q
    · rw [← gk b hb]
      exact q
  have J2 := J.laidN (h' := h') (a := e) (o := EO C (some d) e) (t' := tk') back ge (by rw [upd_ne (Ne.symm M.dne)]; exact fe) (eo_ok hoe hc hd hdat)
  exact ⟨.ref e, _, J2, rfl, q1 e d fe fd (Ne.symm M.dne)⟩
end
end Sl

set_option Elab.async false
set_option linter.all false
set_option maxRecDepth 100000
set_option maxHeartbeats 2000000
namespace PySem
namespace InX
open PySem.W PySem.Calls PyProof.Rows PySem.HandSPX
/-! ### the text of __init__ -/
def iA (p1 p2 : Pos) : Arguments := { posonlyargs := [], args := [{ arg := "self", annotation := none, pos := p1 }, { arg := "value", annotation := none, pos := p2 }], vararg := none, kwonlyargs := [], kw_defaults := [], kwarg := none, defaults := [] }
def iB (q1 q2 q3 q4 : Pos) : List Stmt := [.Assign [.Attribute (.Name "self" q1) "value" q2] (.Name "value" q3) q4]
def iS : Scope := { kind := .function, names := [(PySem.Str.ofString "self", .local), (PySem.Str.ofString "value", .local)], isGenerator := false, isCoroutine := false, more := [] }
/-- what the written part says of InvalidNumber, at C, and of its __init__, at fI -/
abbrev ovf : List Value := [.type "IndexError", .type "LookupError", .type "Exception", .type "BaseException", .type "object"]
structure InTxt (K : Frag) (mg : Str → Option Value) (C fI : Addr) : Prop where
  gC : mg "InvalidNumber" = some (.ref C)
  cls : ∃ nm q N bs bm sn sub ab col dd k0 k1 k2 k3 k5, K.lookup C = some (excClassObj nm q C N bs bm true sn sub ab col dd k0 k1 k2 k3 k5 "IndexError.__new__") ∧ bm = ovf
  sa : findIn K (.ref C) "__setattr__" = some (some (.builtin "object.__setattr__"))
  ga : findIn K (.ref C) "__getattribute__" = some (some (.builtin "BaseException.__getattribute__"))
  gg : findIn K (.ref C) "__getattr__" = some none
  noN : findIn K (.ref C) "value" = some none
  iC : findIn K (.ref C) "__init__" = some (some (.ref fI))
  tC : typeIn K (.ref fI) = some (.type "function")
  kC : keepIn K (.ref C) = true
  exC : subIn K (.ref C) (.type "BaseException") = some true
  tyC : typeIn K (.ref C) = some (.type "type")
  hdC : hasDictIn K C = true
  te : exmOne K (.ref C) (.ref C) = some true
  fn : ∃ (oc : Value) (od : Option Addr) (doc pm : Value) (an : Option Addr) (cdv ct : Value) (osl : Array (Option Value)) (p1 p2 q1 q2 q3 q4 : Pos),
    K.lookup fI = some ⟨oc, od, .func (fnOf "__init__" "InvalidNumber.__init__" (iA p1 p2) (iB q1 q2 q3 q4) iS .none .none doc pm an cdv ct), osl⟩ ∧ codeIn K cdv "InvalidNumber.__init__" = true
theorem one_size (v : Value) : [v].length ≤ sizeLine := by
  rw [sizeLine_eq]
  exact (by decide : 1 ≤ 16777216)
theorem kept_but {K : Frag} {h h' : Heap} {x : Addr} (X : K.In h) (hx : K.lookup x = none) (k : ∀ b o, b ≠ x → h.get? b = some o → h'.get? b = some o) : K.In h' := fun a o e =>
  k a o (fun z => by rw [z, hx] at e; cases e) (X a o e)
theorem ldC {M : Model} {s : Shared} {name : Str} {scope : Scope} {L a : Addr} {cd : Value} {m : Str → Option Value} {x : Str} {pos : Pos} {v : Value} {Q : Value → Shared → Prop} {A : Around} {E : Value → Shared → Prop} (hn : s.heap.Ns L m) (hv : m x = some v) (h : Q v s)
    (hk : scope.kind = .function := by rfl) (hl : (envOfC name scope L a cd).kindOf x = some .local := by rfl) (hd : (x == ("__debug__" : Str)) = false := by decide) :
    wpAny M A (eval (.Name x pos) (envOfC name scope L a cd)) Q E s := wpAny_Name (wpAny_loadName_local hk hl hn hv h) hd
/-- what __init__ leaves of a fresh exception at x -/
structure InitEnd (h h' : Heap) (x C dx t1 : Addr) (v : Value) : Prop where
  keep : ∀ b o, b ≠ x → h.get? b = some o → h'.get? b = some o
  obj : h'.get? x = some { cls := .ref C, dict := some dx, data := .fields #[.ref t1, .none, .none, .none, .bool false, .none] }
  dbig : h.objs.size ≤ dx
  dne : dx ≠ x
  ns : h'.Ns1 dx (fun y => if y = "value" then some v else none)
/-- a made Low -/
structure OwnMade (h h' : Heap) (e C d : Addr) (v : Value) : Prop where
  keep : ∀ b o, h.get? b = some o → h'.get? b = some o
  new : h.objs.size ≤ e
  obj : ∃ oe vs, h'.get? e = some oe ∧ oe.cls = .ref C ∧ oe.dict = some d ∧ oe.data = .fields vs ∧ vs[1]? = some .none
  dbig : h.objs.size ≤ d
  dne : d ≠ e
  ns : h'.Ns1 d (fun y => if y = "value" then some v else none)
section
variable {prog : Program} {w : World} {A : Around} {E : Value → Shared → Prop} {R : Result → Shared → Prop} {s : Shared} {K : Frag} {mg : Str → Option Value} {C fI : Addr}
theorem in_init (T : InTxt K mg C fI) {x t0 : Addr} {v : Value} (X : K.In s.heap) (hlim : s.heap.NoLimit) (hx : s.heap.get? x = some (excO C t0)) (hnx : K.lookup x = none) (hroom : A.depth < recursionLimit)
    (hq : ∀ h' tk dx, InitEnd s.heap h' x C dx t0 v → R (.ok (.ret .none)) { s with heap := h', toks := tk }) :
    codeAny (model prog w) A (.call (.ref fI) ⟨[.ref x, v], []⟩) R s := by
  obtain ⟨oc, od, doc, pm, an, cdv, ct, osl, p1, p2, q1, q2, q3, q4, ho, hcd⟩ := T.fn
  obtain ⟨nm, q, N, bs, bm, sn, sub, ab, col, dd, k0, k1, k2, k3, k5, hC, hbm⟩ := T.cls
  have hcl : clsIn K C = some { name := nm, bases := bs, mro := .ref C :: bm, ns := N, qualname := q, hasDict := true, slotNames := sn, subclasses := sub, abstract := ab, collection := col, hasDel := false } := by unfold clsIn; rw [hC] <;> rfl
  refine Att.call_fn (binds := [("self", .ref x), ("value", v)]) X hlim ho hcd hroom (BindsTo.of_eq (by first | rfl | with_unfolding_all rfl)) (by first | rfl | decide | with_unfolding_all rfl) (fun s₁ IC => ?_) rfl rfl rfl
  obtain ⟨h₁, tk₁, rfl⟩ := IC.toInCall.same
  have k : ∀ b o, s.heap.get? b = some o → h₁.get? b = some o := IC.toInCall.keep
  have hn := IC.toInCall.ns
  have hxL : s.heap.objs.size ≠ x := Nat.ne_of_gt (Heap.lt_size hx)
  have X₁ : K.In h₁ := X.keeps k
  have hx₁ := k _ _ hx
  -- self.by = by
  show wpAny _ _ (execs _ _) _ _ _
  refine wpAny_execs_cons (plainObj_wpAny_Assign_Attribute ?_)
  refine ldC (v := v) hn (by first | rfl | with_unfolding_all rfl | kernel_rfl) (ldC (v := .ref x) hn (by first | rfl | with_unfolding_all rfl | kernel_rfl) ?_)
  refine set_plain X₁ (ox := excO C t0) (od := none) ⟨hx₁, rfl, rfl, trivial⟩ T.sa ?_
  refine ErX.osa_first X₁ hx₁ hcl (fun self => by
    show refuseLoop self "__setattr__" (.ref C :: bm) = pure ()
    rw [refuseLoop_ref, hbm]
    exact F.store_IndexError.passes self) rfl (by
    show (Value.ref C :: bm).contains (.type "object") = true
    rw [hbm]
    rfl) rfl T.noN (fun h₃ tk₃ dx k₃ dn dne hx₃ hn₃ => ?_)
  show wpAny _ _ (execs _ _) _ _ _
  have z : s.heap.objs.size < h₁.objs.size := hn.lt
  exact wpAny_execs_nil (hq h₃ tk₃ dx ⟨fun b o hb e => k₃ b o hb (k b o e), hx₃, Nat.le_of_lt (Nat.lt_of_lt_of_le z dn), dne, hn₃⟩)
theorem in_made (T : InTxt K mg C fI) {v : Value} (X : K.In s.heap) (hlim : s.heap.NoLimit) (hroom : A.depth + 1 < recursionLimit)
    (hq : ∀ h' tk e d, OwnMade s.heap h' e C d v → R (.ok (.ret (.ref e))) { s with heap := h', toks := tk }) :
    codeAny (model prog w) A (.call (.ref C) ⟨[v], []⟩) R s := by
  obtain ⟨nm, q, N, bs, bm, sn, sub, ab, col, dd, k0, k1, k2, k3, k5, hC, hbm⟩ := T.cls
  obtain ⟨hp, g, dr, tk, os⟩ := s
  have k : ∀ b o, hp.get? b = some o → ((hp.push (kdv_tup [v])).push (excO C hp.objs.size)).get? b = some o := fun b o e => Heap.get?_push_of_some _ (Heap.get?_push_of_some _ e)
  have hget : ((hp.push (kdv_tup [v])).push (excO C hp.objs.size)).get? (hp.objs.size + 1) = some (excO C hp.objs.size) := by heap_get
  have hnx : K.lookup (hp.objs.size + 1) = none := by
    cases e : K.lookup (hp.objs.size + 1) with
    | none => rfl
    | some o =>
      have z : hp.get? (hp.objs.size + 1) = some o := X _ _ e
      exact absurd (Nat.lt_of_succ_lt (Heap.lt_size z)) (Nat.lt_irrefl _)
  refine call_own F.excBase_IndexError (fun X => by rw [hbm]) (X _ _ hC) (looks_findIn X T.iC) (fun self => bind_fn X self T.tC) (one_size v) ?_
  refine in_init (s := ⟨(hp.push (kdv_tup [v])).push (excO C hp.objs.size), g, dr, tk, os⟩) T (X.keeps k) (hlim.keeps k) hget hnx ?_ fun h' tk' dx ⟨k', hx, dn, dne, hns⟩ => ?_
  · show A.depth + 1 < recursionLimit
    exact hroom
  · have old : ∀ b o, hp.get? b = some o → h'.get? b = some o := fun b o e => k' b o (Nat.ne_of_lt (Nat.lt_succ_of_lt (Heap.lt_size e))) (k b o e)
    have z : hp.objs.size + 1 + 1 ≤ dx := by
      first
        | (simpa only [Heap.size_push] using dn)
        | exact dn
        | (have q := dn; rw [Heap.size_push, Heap.size_push] at q; exact q)
    exact ⟨rfl, hq h' tk' (hp.objs.size + 1) dx ⟨old, Nat.le_succ _, ⟨_, _, hx, rfl, rfl, rfl, rfl⟩, Nat.le_trans (Nat.le_trans (Nat.le_succ _) (Nat.le_succ _)) z, dne, hns⟩⟩
end
end InX
end PySem
namespace L2
open PySem PySem.Spec PyProof.Rows
theorem relO_in {v : V} {v' : Value} (r : RelV v v') (f : Str) : RelO (List.lookup f [(("value" : Str), v)]) (if f = "value" then some v' else none) := by
  by_cases hw : f = "value"
  · subst hw
    rw [if_pos rfl]
    have q : List.lookup ("value" : Str) [(("value" : Str), v)] = some v := by simp [List.lookup]
    rw [q]
    exact r
  · rw [if_neg hw]
    have qw : (f == ("value" : Str)) = false := by simpa using hw
    have q2 : List.lookup f [(("value" : Str), v)] = none := by simp [List.lookup, qw]
    rw [q2]
    trivial
section
variable {X : Cx} {C fI : Addr}
/-- Low(e) -/
def tMkIn (C : Addr) (ta : TA) : St → Hp → XK → Prop := fun σ H Q => ta σ H fun vs H1 => ∃ v, vs = [v] ∧ ∀ d, H1 d = none → Q (.ref C) (some d) (upd H1 d (.xd [(("value" : Str), v)]))
theorem pmk_in {a : Expr} {ta : TA} {p pos : Pos} {k : Nat} (T : PySem.InX.InTxt X.K X.mg C fI) (hr : Room k X.A) (ha : PA X [a] ta) (hg : Gl X "InvalidNumber" := by rfl)
    (he : starEach (a :: []) X.env = (false, eval a X.env) :: starEach [] X.env := by rfl) (hpl : (backTo pos (starEach [] X.env)).any (·.1) = false := by rfl) :
    PMk X (.Call (.Name "InvalidNumber" p) [a] [] pos) (tMkIn C ta) := by
  intro pins s σ H Q I h
  refine wpAny_Call_Name_kw (ld_glob I hg T.gC ?_)
  refine PySem.W.callWith_K (h₀ := X.base) I.ok.mod.kin T.kC (thn (ha.run pos pins s σ H _ I h) fun us s1 hh => ?_) he hpl
  obtain ⟨vs, H1, I1, r1, v, ev, q1⟩ := hh
  subst ev
  refine ⟨I1.kIn, ?_⟩
  cases r1 with
  | cons rv rn =>
    rename_i v' us'
    cases rn
    show wpAny _ _ (call (.ref C) [v']) _ _ _
    have hlim := I1.nolimit
    obtain ⟨hp, g, dr, tk, os⟩ := s1
    refine wpAny_call (PySem.InX.in_made T I1.kIn hlim (by have := hr.dp; omega) fun h' tk' e d M => ?_)
    show MkP X pins σ Q (.ref e) ⟨h', g, dr, tk', os⟩
    obtain ⟨oe, fv, hoe, hc, hd, hdat, h1⟩ := M.obj
    have hns := M.ns
    obtain ⟨G', g1, g2⟩ := restrict h' fun b => decide (b ≠ e)
    have gk : ∀ b, b ≠ e → G'.get? b = h'.get? b := fun b hb => g1 b (decide_eq_true hb)
    have ge : G'.get? e = none := g2 e (by simp)
    have old : ∀ b o, hp.get? b = some o → G'.get? b = some o := fun b o q => (gk b (Nat.ne_of_lt (Nat.lt_of_lt_of_le (Heap.lt_size q) M.new))).trans (M.keep b o q)
    have ob : ObjOk X.prog X.w (upd H1 d (.xd [(("value" : Str), v)])) G' d (.xd [(("value" : Str), v)]) :=
      ⟨_, hns.at (fun o q => (gk d M.dne).trans q), fun f => relO_in rv f⟩
    have J : Inv X pins σ (upd H1 d (.xd [(("value" : Str), v)])) ⟨G', g, dr, tk', os⟩ := I1.laid (t' := tk') old M.dbig ob
    refine ⟨e, oe, fv, ⟨G', g, dr, tk', os⟩, _, .ref C, some d, rfl, J, fun b o q => ?_, ge, hoe, ⟨hc, hd⟩, hdat, h1, ?_, rfl, I1.bare, raises_own T.exC T.tyC, q1 d (I1.hok.fresh M.dbig)⟩
    · by_cases hb : b = e
      · have q' : G'.get? b = some o := q
        rw [hb, ge] at q'; cases q'
      · exact (gk b hb).symm.trans q
    · rw [upd_ne (Ne.symm M.dne)]
      exact I1.hok.fresh M.new
/-- raise Low(e) -/
def tRaiseIn (C : Addr) (W : WX) (ta : TA) : TS := fun _ σ H => tMkIn C ta σ H fun cls d H' => W cls d σ H'
theorem ps_raiseIn {a : Expr} {ta : TA} {W : WX} {p pos pos2 : Pos} {k : Nat} (hc : X.calm = true) (T : PySem.InX.InTxt X.K X.mg C fI) (hr : Room k X.A) (tk : Takes X W) (ha : PA X [a] ta) (hg : Gl X "InvalidNumber" := by rfl)
    (he : starEach (a :: []) X.env = (false, eval a X.env) :: starEach [] X.env := by rfl) (hpl : (backTo pos (starEach [] X.env)).any (·.1) = false := by rfl) :
    PS X (.Raise (some (.Call (.Name "InvalidNumber" p) [a] [] pos)) none pos2) (tRaiseIn C W ta) := ps_raise hc tk (pmk_in T hr ha hg he hpl)
/-- low.by, low the exception that the suite holds (at a; its class cls, its dict d) -/
def tByIn (C : Addr) (a : Addr) (cls : Value) (d : Option Addr) (te : TE) : TE := fun σ H Q => te σ H fun x H1 => x = .ref a ∧ cls = .ref C ∧ ∃ (dd : Addr) (v : V), d = some dd ∧ H1 dd = some (.xd [(("value" : Str), v)]) ∧ Q v H1
theorem pe_byIn {a : Addr} {oe : Obj} {cls : Value} {d : Option Addr} {pn : List (Addr × Obj)} {e : Expr} {te : TE} {pos : Pos} (T : PySem.InX.InTxt X.K X.mg C fI) (hz : Zc cls d oe) (hf : ∃ vs, oe.data = .fields vs) (he : PE (X.suite a ((a, oe) :: pn)) e te)
    (hb : attributeBase e "value" X.env (eval e X.env) = eval e X.env := by rfl) :
    PE (X.suite a ((a, oe) :: pn)) (.Attribute e "value" pos) (tByIn C a cls d te) := by
  refine ⟨fun pins s σ H Q I h => ?_⟩
  refine attr_of hb (thn (he.run pins s σ H _ I h) fun u s1 hh => ?_)
  obtain ⟨x, H1, I1, rx, ex, ec, dd, v, ed, ea, q⟩ := hh
  subst ex
  obtain rfl : u = Value.ref a := rx
  subst ec
  subst ed
  obtain ⟨ha, _⟩ := I1.pin (a, oe) (List.mem_append_left _ List.mem_cons_self)
  obtain ⟨vs, hd⟩ := hf
  have hx : ObjOk X.prog X.w H1 s1.heap dd (.xd [(("value" : Str), v)]) := I1.hok dd _ ea
  obtain ⟨mA, hns, hr⟩ := hx
  obtain ⟨od, ho, hl⟩ := lookIn_ns hns
  have l : List.lookup ("value" : Str) [(("value" : Str), v)] = some v := by simp [List.lookup]
  obtain ⟨u, hu, ru⟩ := RelO.some_of (v := v) (o := mA "value") (by rw [← l]; exact hr "value")
  have J : PySem.W.InstAt s1.heap a oe C (some od) := ⟨ha, hz.1, by unfold PySem.W.notCls; rw [hd] <;> rfl, by rw [hz.2]; exact ho⟩
  exact HandSPX.exc_get I1.kIn J T.ga T.gg T.exC (PySem.W.findObj_own T.hdC T.noN rfl (by rw [hl, hu])) (handed_of ru) ⟨v, H1, I1.tok _, ru, q⟩
end
end L2

set_option Elab.async false
set_option linter.all false
set_option maxRecDepth 100000
set_option maxHeartbeats 400000
namespace Sl
open PySem PySem.Spec PyProof.Rows L2
section
variable {X : Cx} {C fI : Addr}
/-- InvalidNumber(e), as a value -/
theorem pe_inV {a : Expr} {ta : TA} {p pos : Pos} {k : Nat} (T : PySem.InX.InTxt X.K X.mg C fI) (hr : Room k X.A) (ha : PA X [a] ta) (hg : Gl X "InvalidNumber" := by rfl)
    (he : starEach (a :: []) X.env = (false, eval a X.env) :: starEach [] X.env := by rfl) (hpl : (backTo pos (starEach [] X.env)).any (·.1) = false := by rfl) :
    PE X (.Call (.Name "InvalidNumber" p) [a] [] pos) (fun σ H Q => ta σ H fun vs H1 => ∃ v, vs = [v] ∧ ∀ a d, H1 a = none → H1 d = none → a ≠ d → Q (.ref a) (upd (upd H1 d (.xd [(("value" : Str), v)])) a (EO C (some d) a))) := by
  refine ⟨fun pins s σ H Q I h => ?_⟩
  refine wpAny_Call_Name_kw (ld_glob I hg T.gC ?_)
  refine PySem.W.callWith_K (h₀ := X.base) I.ok.mod.kin T.kC (thn (ha.run pos pins s σ H _ I h) fun us s1 hh => ?_) he hpl
  obtain ⟨vs, H1, I1, r1, v, ev, q1⟩ := hh
  subst ev
  refine ⟨I1.kIn, ?_⟩
  obtain ⟨v', rfl, rv⟩ := r1.one
  show wpAny _ _ (call (.ref C) [v']) _ _ _
  have hlim := I1.nolimit
  obtain ⟨hp, g, dr, tk, os⟩ := s1
  refine wpAny_call (PySem.InX.in_made T I1.kIn hlim (by have := hr.dp; omega) fun h' tk' e d M => ?_)
  obtain ⟨oe, fv, hoe, hc, hd, hdat, h1⟩ := M.obj
  obtain ⟨G, g1, g2⟩ := restrict h' fun b => decide (b ≠ e)
  have gk : ∀ b, b ≠ e → G.get? b = h'.get? b := fun b hb => g1 b (decide_eq_true hb)
  have ge : G.get? e = none := g2 e (by simp)
  have old : ∀ b o, hp.get? b = some o → G.get? b = some o := fun b o q => (gk b (Nat.ne_of_lt (Nat.lt_of_lt_of_le (Heap.lt_size q) M.new))).trans (M.keep b o q)
  have ob : ObjOk X.prog X.w (upd H1 d (.xd [(("value" : Str), v)])) G d (.xd [(("value" : Str), v)]) := ⟨_, M.ns.at (fun o q => (gk d M.dne).trans q), fun f => relO_in rv f⟩
  have J : Inv X pins σ (upd H1 d (.xd [(("value" : Str), v)])) ⟨G, g, dr, tk', os⟩ := I1.laid (t' := tk') old M.dbig ob
  have fe : H1 e = none := I1.hok.fresh M.new
  have fd : H1 d = none := I1.hok.fresh M.dbig
  have back : ∀ b o, G.get? b = some o → h'.get? b = some o := fun b o q => by
    by_cases hb : b = e
    · rw [hb, ge] at q
      cases q
    · rw [← gk b hb]
      exact q
  have J2 := J.laidN (h' := h') (a := e) (o := EO C (some d) e) (t' := tk') back ge (by rw [upd_ne (Ne.symm M.dne)]; exact fe) (eo_ok hoe hc hd hdat)
  exact ⟨.ref e, _, J2, rfl, q1 e d fe fd (Ne.symm M.dne)⟩
end
end Sl

set_option Elab.async false
set_option linter.all false
set_option maxRecDepth 100000
set_option maxHeartbeats 2000000
namespace PySem
namespace UnX
open PySem.W PySem.Calls PyProof.Rows PySem.HandSPX
/-! ### the text of __init__ -/
def iA (p1 p2 : Pos) : Arguments := { posonlyargs := [], args := [{ arg := "self", annotation := none, pos := p1 }, { arg := "name", annotation := none, pos := p2 }], vararg := none, kwonlyargs := [], kw_defaults := [], kwarg := none, defaults := [] }
def iB (q1 q2 q3 q4 : Pos) : List Stmt := [.Assign [.Attribute (.Name "self" q1) "name" q2] (.Name "name" q3) q4]
def iS : Scope := { kind := .function, names := [(PySem.Str.ofString "self", .local), (PySem.Str.ofString "name", .local)], isGenerator := false, isCoroutine := false, more := [] }
/-- what the written part says of UnknownName, at C, and of its __init__, at fI -/
abbrev ovf : List Value := [.type "KeyError", .type "LookupError", .type "Exception", .type "BaseException", .type "object"]
structure UnTxt (K : Frag) (mg : Str → Option Value) (C fI : Addr) : Prop where
  gC : mg "UnknownName" = some (.ref C)
  cls : ∃ nm q N bs bm sn sub ab col dd k0 k1 k2 k3 k5, K.lookup C = some (excClassObj nm q C N bs bm true sn sub ab col dd k0 k1 k2 k3 k5 "LookupError.__new__") ∧ bm = ovf
  sa : findIn K (.ref C) "__setattr__" = some (some (.builtin "object.__setattr__"))
  ga : findIn K (.ref C) "__getattribute__" = some (some (.builtin "BaseException.__getattribute__"))
  gg : findIn K (.ref C) "__getattr__" = some none
  noN : findIn K (.ref C) "name" = some none
  iC : findIn K (.ref C) "__init__" = some (some (.ref fI))
  tC : typeIn K (.ref fI) = some (.type "function")
  kC : keepIn K (.ref C) = true
  exC : subIn K (.ref C) (.type "BaseException") = some true
  tyC : typeIn K (.ref C) = some (.type "type")
  hdC : hasDictIn K C = true
  te : exmOne K (.ref C) (.ref C) = some true
  fn : ∃ (oc : Value) (od : Option Addr) (doc pm : Value) (an : Option Addr) (cdv ct : Value) (osl : Array (Option Value)) (p1 p2 q1 q2 q3 q4 : Pos),
    K.lookup fI = some ⟨oc, od, .func (fnOf "__init__" "UnknownName.__init__" (iA p1 p2) (iB q1 q2 q3 q4) iS .none .none doc pm an cdv ct), osl⟩ ∧ codeIn K cdv "UnknownName.__init__" = true
theorem one_size (v : Value) : [v].length ≤ sizeLine := by
  rw [sizeLine_eq]
  exact (by decide : 1 ≤ 16777216)
theorem kept_but {K : Frag} {h h' : Heap} {x : Addr} (X : K.In h) (hx : K.lookup x = none) (k : ∀ b o, b ≠ x → h.get? b = some o → h'.get? b = some o) : K.In h' := fun a o e =>
  k a o (fun z => by rw [z, hx] at e; cases e) (X a o e)
theorem ldC {M : Model} {s : Shared} {name : Str} {scope : Scope} {L a : Addr} {cd : Value} {m : Str → Option Value} {x : Str} {pos : Pos} {v : Value} {Q : Value → Shared → Prop} {A : Around} {E : Value → Shared → Prop} (hn : s.heap.Ns L m) (hv : m x = some v) (h : Q v s)
    (hk : scope.kind = .function := by rfl) (hl : (envOfC name scope L a cd).kindOf x = some .local := by rfl) (hd : (x == ("__debug__" : Str)) = false := by decide) :
    wpAny M A (eval (.Name x pos) (envOfC name scope L a cd)) Q E s := wpAny_Name (wpAny_loadName_local hk hl hn hv h) hd
/-- what __init__ leaves of a fresh exception at x -/
structure InitEnd (h h' : Heap) (x C dx t1 : Addr) (v : Value) : Prop where
  keep : ∀ b o, b ≠ x → h.get? b = some o → h'.get? b = some o
  obj : h'.get? x = some { cls := .ref C, dict := some dx, data := .fields #[.ref t1, .none, .none, .none, .bool false, .none] }
  dbig : h.objs.size ≤ dx
  dne : dx ≠ x
  ns : h'.Ns1 dx (fun y => if y = "name" then some v else none)
/-- a made Low -/
structure OwnMade (h h' : Heap) (e C d : Addr) (v : Value) : Prop where
  keep : ∀ b o, h.get? b = some o → h'.get? b = some o
  new : h.objs.size ≤ e
  obj : ∃ oe vs, h'.get? e = some oe ∧ oe.cls = .ref C ∧ oe.dict = some d ∧ oe.data = .fields vs ∧ vs[1]? = some .none
  dbig : h.objs.size ≤ d
  dne : d ≠ e
  ns : h'.Ns1 d (fun y => if y = "name" then some v else none)
section
variable {prog : Program} {w : World} {A : Around} {E : Value → Shared → Prop} {R : Result → Shared → Prop} {s : Shared} {K : Frag} {mg : Str → Option Value} {C fI : Addr}
theorem un_init (T : UnTxt K mg C fI) {x t0 : Addr} {v : Value} (X : K.In s.heap) (hlim : s.heap.NoLimit) (hx : s.heap.get? x = some (excO C t0)) (hnx : K.lookup x = none) (hroom : A.depth < recursionLimit)
    (hq : ∀ h' tk dx, InitEnd s.heap h' x C dx t0 v → R (.ok (.ret .none)) { s with heap := h', toks := tk }) :
    codeAny (model prog w) A (.call (.ref fI) ⟨[.ref x, v], []⟩) R s := by
  obtain ⟨oc, od, doc, pm, an, cdv, ct, osl, p1, p2, q1, q2, q3, q4, ho, hcd⟩ := T.fn
  obtain ⟨nm, q, N, bs, bm, sn, sub, ab, col, dd, k0, k1, k2, k3, k5, hC, hbm⟩ := T.cls
  have hcl : clsIn K C = some { name := nm, bases := bs, mro := .ref C :: bm, ns := N, qualname := q, hasDict := true, slotNames := sn, subclasses := sub, abstract := ab, collection := col, hasDel := false } := by unfold clsIn; rw [hC] <;> rfl
  refine Att.call_fn (binds := [("self", .ref x), ("name", v)]) X hlim ho hcd hroom (BindsTo.of_eq (by first | rfl | with_unfolding_all rfl)) (by first | rfl | decide | with_unfolding_all rfl) (fun s₁ IC => ?_) rfl rfl rfl
  obtain ⟨h₁, tk₁, rfl⟩ := IC.toInCall.same
  have k : ∀ b o, s.heap.get? b = some o → h₁.get? b = some o := IC.toInCall.keep
  have hn := IC.toInCall.ns
  have hxL : s.heap.objs.size ≠ x := Nat.ne_of_gt (Heap.lt_size hx)
  have X₁ : K.In h₁ := X.keeps k
  have hx₁ := k _ _ hx
  -- self.by = by
  show wpAny _ _ (execs _ _) _ _ _
  refine wpAny_execs_cons (plainObj_wpAny_Assign_Attribute ?_)
  refine ldC (v := v) hn (by first | rfl | with_unfolding_all rfl | kernel_rfl) (ldC (v := .ref x) hn (by first | rfl | with_unfolding_all rfl | kernel_rfl) ?_)
  refine set_plain X₁ (ox := excO C t0) (od := none) ⟨hx₁, rfl, rfl, trivial⟩ T.sa ?_
  refine ErX.osa_first X₁ hx₁ hcl (fun self => by
    show refuseLoop self "__setattr__" (.ref C :: bm) = pure ()
    rw [refuseLoop_ref, hbm]
    kernel_rfl) rfl (by
    show (Value.ref C :: bm).contains (.type "object") = true
    rw [hbm]
    rfl) rfl T.noN (fun h₃ tk₃ dx k₃ dn dne hx₃ hn₃ => ?_)
  show wpAny _ _ (execs _ _) _ _ _
  have z : s.heap.objs.size < h₁.objs.size := hn.lt
  exact wpAny_execs_nil (hq h₃ tk₃ dx ⟨fun b o hb e => k₃ b o hb (k b o e), hx₃, Nat.le_of_lt (Nat.lt_of_lt_of_le z dn), dne, hn₃⟩)
theorem un_made (T : UnTxt K mg C fI) {v : Value} (X : K.In s.heap) (hlim : s.heap.NoLimit) (hroom : A.depth + 1 < recursionLimit)
    (hq : ∀ h' tk e d, OwnMade s.heap h' e C d v → R (.ok (.ret (.ref e))) { s with heap := h', toks := tk }) :
    codeAny (model prog w) A (.call (.ref C) ⟨[v], []⟩) R s := by
  obtain ⟨nm, q, N, bs, bm, sn, sub, ab, col, dd, k0, k1, k2, k3, k5, hC, hbm⟩ := T.cls
  obtain ⟨hp, g, dr, tk, os⟩ := s
  have k : ∀ b o, hp.get? b = some o → ((hp.push (kdv_tup [v])).push (excO C hp.objs.size)).get? b = some o := fun b o e => Heap.get?_push_of_some _ (Heap.get?_push_of_some _ e)
  have hget : ((hp.push (kdv_tup [v])).push (excO C hp.objs.size)).get? (hp.objs.size + 1) = some (excO C hp.objs.size) := by heap_get
  have hnx : K.lookup (hp.objs.size + 1) = none := by
    cases e : K.lookup (hp.objs.size + 1) with
    | none => rfl
    | some o =>
      have z : hp.get? (hp.objs.size + 1) = some o := X _ _ e
      exact absurd (Nat.lt_of_succ_lt (Heap.lt_size z)) (Nat.lt_irrefl _)
  refine PySem.KeX.made F.excBase_LookupError (show PySem.KeX.Tail "LookupError" bm from hbm ▸ ⟨by decide +kernel, by decide +kernel, by decide +kernel⟩) (X _ _ hC) (looks_findIn X T.iC) (fun self => bind_fn X self T.tC) (one_size v) ?_
  refine un_init (s := ⟨(hp.push (kdv_tup [v])).push (excO C hp.objs.size), g, dr, tk, os⟩) T (X.keeps k) (hlim.keeps k) hget hnx ?_ fun h' tk' dx ⟨k', hx, dn, dne, hns⟩ => ?_
  · show A.depth + 1 < recursionLimit
    exact hroom
  · have old : ∀ b o, hp.get? b = some o → h'.get? b = some o := fun b o e => k' b o (Nat.ne_of_lt (Nat.lt_succ_of_lt (Heap.lt_size e))) (k b o e)
    have z : hp.objs.size + 1 + 1 ≤ dx := by
      first
        | (simpa only [Heap.size_push] using dn)
        | exact dn
        | (have q := dn; rw [Heap.size_push, Heap.size_push] at q; exact q)
    exact ⟨rfl, hq h' tk' (hp.objs.size + 1) dx ⟨old, Nat.le_succ _, ⟨_, _, hx, rfl, rfl, rfl, rfl⟩, Nat.le_trans (Nat.le_trans (Nat.le_succ _) (Nat.le_succ _)) z, dne, hns⟩⟩
end
end UnX
end PySem
namespace L2
open PySem PySem.Spec PyProof.Rows
theorem relO_un {v : V} {v' : Value} (r : RelV v v') (f : Str) : RelO (List.lookup f [(("name" : Str), v)]) (if f = "name" then some v' else none) := by
  by_cases hw : f = "name"
  · subst hw
    rw [if_pos rfl]
    have q : List.lookup ("name" : Str) [(("name" : Str), v)] = some v := by simp [List.lookup]
    rw [q]
    exact r
  · rw [if_neg hw]
    have qw : (f == ("name" : Str)) = false := by simpa using hw
    have q2 : List.lookup f [(("name" : Str), v)] = none := by simp [List.lookup, qw]
    rw [q2]
    trivial
section
variable {X : Cx} {C fI : Addr}
/-- Low(e) -/
def tMkUn (C : Addr) (ta : TA) : St → Hp → XK → Prop := fun σ H Q => ta σ H fun vs H1 => ∃ v, vs = [v] ∧ ∀ d, H1 d = none → Q (.ref C) (some d) (upd H1 d (.xd [(("name" : Str), v)]))
theorem pmk_un {a : Expr} {ta : TA} {p pos : Pos} {k : Nat} (T : PySem.UnX.UnTxt X.K X.mg C fI) (hr : Room k X.A) (ha : PA X [a] ta) (hg : Gl X "UnknownName" := by rfl)
    (he : starEach (a :: []) X.env = (false, eval a X.env) :: starEach [] X.env := by rfl) (hpl : (backTo pos (starEach [] X.env)).any (·.1) = false := by rfl) :
    PMk X (.Call (.Name "UnknownName" p) [a] [] pos) (tMkUn C ta) := by
  intro pins s σ H Q I h
  refine wpAny_Call_Name_kw (ld_glob I hg T.gC ?_)
  refine PySem.W.callWith_K (h₀ := X.base) I.ok.mod.kin T.kC (thn (ha.run pos pins s σ H _ I h) fun us s1 hh => ?_) he hpl
  obtain ⟨vs, H1, I1, r1, v, ev, q1⟩ := hh
  subst ev
  refine ⟨I1.kIn, ?_⟩
  cases r1 with
  | cons rv rn =>
    rename_i v' us'
    cases rn
    show wpAny _ _ (call (.ref C) [v']) _ _ _
    have hlim := I1.nolimit
    obtain ⟨hp, g, dr, tk, os⟩ := s1
    refine wpAny_call (PySem.UnX.un_made T I1.kIn hlim (by have := hr.dp; omega) fun h' tk' e d M => ?_)
    show MkP X pins σ Q (.ref e) ⟨h', g, dr, tk', os⟩
    obtain ⟨oe, fv, hoe, hc, hd, hdat, h1⟩ := M.obj
    have hns := M.ns
    obtain ⟨G', g1, g2⟩ := restrict h' fun b => decide (b ≠ e)
    have gk : ∀ b, b ≠ e → G'.get? b = h'.get? b := fun b hb => g1 b (decide_eq_true hb)
    have ge : G'.get? e = none := g2 e (by simp)
    have old : ∀ b o, hp.get? b = some o → G'.get? b = some o := fun b o q => (gk b (Nat.ne_of_lt (Nat.lt_of_lt_of_le (Heap.lt_size q) M.new))).trans (M.keep b o q)
    have ob : ObjOk X.prog X.w (upd H1 d (.xd [(("name" : Str), v)])) G' d (.xd [(("name" : Str), v)]) :=
      ⟨_, hns.at (fun o q => (gk d M.dne).trans q), fun f => relO_un rv f⟩
    have J : Inv X pins σ (upd H1 d (.xd [(("name" : Str), v)])) ⟨G', g, dr, tk', os⟩ := I1.laid (t' := tk') old M.dbig ob
    refine ⟨e, oe, fv, ⟨G', g, dr, tk', os⟩, _, .ref C, some d, rfl, J, fun b o q => ?_, ge, hoe, ⟨hc, hd⟩, hdat, h1, ?_, rfl, I1.bare, raises_own T.exC T.tyC, q1 d (I1.hok.fresh M.dbig)⟩
    · by_cases hb : b = e
      · have q' : G'.get? b = some o := q
        rw [hb, ge] at q'; cases q'
      · exact (gk b hb).symm.trans q
    · rw [upd_ne (Ne.symm M.dne)]
      exact I1.hok.fresh M.new
/-- raise Low(e) -/
def tRaiseUn (C : Addr) (W : WX) (ta : TA) : TS := fun _ σ H => tMkUn C ta σ H fun cls d H' => W cls d σ H'
theorem ps_raiseUn {a : Expr} {ta : TA} {W : WX} {p pos pos2 : Pos} {k : Nat} (hc : X.calm = true) (T : PySem.UnX.UnTxt X.K X.mg C fI) (hr : Room k X.A) (tk : Takes X W) (ha : PA X [a] ta) (hg : Gl X "UnknownName" := by rfl)
    (he : starEach (a :: []) X.env = (false, eval a X.env) :: starEach [] X.env := by rfl) (hpl : (backTo pos (starEach [] X.env)).any (·.1) = false := by rfl) :
    PS X (.Raise (some (.Call (.Name "UnknownName" p) [a] [] pos)) none pos2) (tRaiseUn C W ta) := ps_raise hc tk (pmk_un T hr ha hg he hpl)
/-- low.by, low the exception that the suite holds (at a; its class cls, its dict d) -/
def tByUn (C : Addr) (a : Addr) (cls : Value) (d : Option Addr) (te : TE) : TE := fun σ H Q => te σ H fun x H1 => x = .ref a ∧ cls = .ref C ∧ ∃ (dd : Addr) (v : V), d = some dd ∧ H1 dd = some (.xd [(("name" : Str), v)]) ∧ Q v H1
theorem pe_byUn {a : Addr} {oe : Obj} {cls : Value} {d : Option Addr} {pn : List (Addr × Obj)} {e : Expr} {te : TE} {pos : Pos} (T : PySem.UnX.UnTxt X.K X.mg C fI) (hz : Zc cls d oe) (hf : ∃ vs, oe.data = .fields vs) (he : PE (X.suite a ((a, oe) :: pn)) e te)
    (hb : attributeBase e "name" X.env (eval e X.env) = eval e X.env := by rfl) :
    PE (X.suite a ((a, oe) :: pn)) (.Attribute e "name" pos) (tByUn C a cls d te) := by
  refine ⟨fun pins s σ H Q I h => ?_⟩
  refine attr_of hb (thn (he.run pins s σ H _ I h) fun u s1 hh => ?_)
  obtain ⟨x, H1, I1, rx, ex, ec, dd, v, ed, ea, q⟩ := hh
  subst ex
  obtain rfl : u = Value.ref a := rx
  subst ec
  subst ed
  obtain ⟨ha, _⟩ := I1.pin (a, oe) (List.mem_append_left _ List.mem_cons_self)
  obtain ⟨vs, hd⟩ := hf
  have hx : ObjOk X.prog X.w H1 s1.heap dd (.xd [(("name" : Str), v)]) := I1.hok dd _ ea
  obtain ⟨mA, hns, hr⟩ := hx
  obtain ⟨od, ho, hl⟩ := lookIn_ns hns
  have l : List.lookup ("name" : Str) [(("name" : Str), v)] = some v := by simp [List.lookup]
  obtain ⟨u, hu, ru⟩ := RelO.some_of (v := v) (o := mA "name") (by rw [← l]; exact hr "name")
  have J : PySem.W.InstAt s1.heap a oe C (some od) := ⟨ha, hz.1, by unfold PySem.W.notCls; rw [hd] <;> rfl, by rw [hz.2]; exact ho⟩
  exact HandSPX.exc_get I1.kIn J T.ga T.gg T.exC (PySem.W.findObj_own T.hdC T.noN rfl (by rw [hl, hu])) (handed_of ru) ⟨v, H1, I1.tok _, ru, q⟩
end
end L2

set_option Elab.async false
set_option linter.all false
set_option maxRecDepth 100000
set_option maxHeartbeats 400000
namespace Sl
open PySem PySem.Spec PyProof.Rows L2
section
variable {X : Cx} {C fI : Addr}
/-- UnknownName(e), as a value -/
theorem pe_unV {a : Expr} {ta : TA} {p pos : Pos} {k : Nat} (T : PySem.UnX.UnTxt X.K X.mg C fI) (hr : Room k X.A) (ha : PA X [a] ta) (hg : Gl X "UnknownName" := by rfl)
    (he : starEach (a :: []) X.env = (false, eval a X.env) :: starEach [] X.env := by rfl) (hpl : (backTo pos (starEach [] X.env)).any (·.1) = false := by rfl) :
    PE X (.Call (.Name "UnknownName" p) [a] [] pos) (fun σ H Q => ta σ H fun vs H1 => ∃ v, vs = [v] ∧ ∀ a d, H1 a = none → H1 d = none → a ≠ d → Q (.ref a) (upd (upd H1 d (.xd [(("name" : Str), v)])) a (EO C (some d) a))) := by
  refine ⟨fun pins s σ H Q I h => ?_⟩
  refine wpAny_Call_Name_kw (ld_glob I hg T.gC ?_)
  refine PySem.W.callWith_K (h₀ := X.base) I.ok.mod.kin T.kC (thn (ha.run pos pins s σ H _ I h) fun us s1 hh => ?_) he hpl
  obtain ⟨vs, H1, I1, r1, v, ev, q1⟩ := hh
  subst ev
  refine ⟨I1.kIn, ?_⟩
  obtain ⟨v', rfl, rv⟩ := r1.one
  show wpAny _ _ (call (.ref C) [v']) _ _ _
  have hlim := I1.nolimit
  obtain ⟨hp, g, dr, tk, os⟩ := s1
  refine wpAny_call (PySem.UnX.un_made T I1.kIn hlim (by have := hr.dp; omega) fun h' tk' e d M => ?_)
  obtain ⟨oe, fv, hoe, hc, hd, hdat, h1⟩ := M.obj
  obtain ⟨G, g1, g2⟩ := restrict h' fun b => decide (b ≠ e)
  have gk : ∀ b, b ≠ e → G.get? b = h'.get? b := fun b hb => g1 b (decide_eq_true hb)
  have ge : G.get? e = none := g2 e (by simp)
  have old : ∀ b o, hp.get? b = some o → G.get? b = some o := fun b o q => (gk b (Nat.ne_of_lt (Nat.lt_of_lt_of_le (Heap.lt_size q) M.new))).trans (M.keep b o q)
  have ob : ObjOk X.prog X.w (upd H1 d (.xd [(("name" : Str), v)])) G d (.xd [(("name" : Str), v)]) := ⟨_, M.ns.at (fun o q => (gk d M.dne).trans q), fun f => relO_un rv f⟩
  have J : Inv X pins σ (upd H1 d (.xd [(("name" : Str), v)])) ⟨G, g, dr, tk', os⟩ := I1.laid (t' := tk') old M.dbig ob
  have fe : H1 e = none := I1.hok.fresh M.new
  have fd : H1 d = none := I1.hok.fresh M.dbig
  have back : ∀ b o, G.get? b = some o → h'.get? b = some o := fun b o q => by
    by_cases hb : b = e
    · rw [hb, ge] at q
      cases q
    · rw [← gk b hb]
      exact q
  have J2 := J.laidN (h' := h') (a := e) (o := EO C (some d) e) (t' := tk') back ge (by rw [upd_ne (Ne.symm M.dne)]; exact fe) (eo_ok hoe hc hd hdat)
  exact ⟨.ref e, _, J2, rfl, q1 e d fe fd (Ne.symm M.dne)⟩
end
end Sl

set_option Elab.async false
set_option linter.all false
set_option maxRecDepth 100000
set_option maxHeartbeats 2000000
namespace PySem
namespace ChX
open PySem.W PySem.Calls PyProof.Rows PySem.HandSPX
/-! ### the text of __init__ -/
def iA (p1 p2 : Pos) : Arguments := { posonlyargs := [], args := [{ arg := "self", annotation := none, pos := p1 }, { arg := "chain", annotation := none, pos := p2 }], vararg := none, kwonlyargs := [], kw_defaults := [], kwarg := none, defaults := [] }
def iB (q1 q2 q3 q4 : Pos) : List Stmt := [.Assign [.Attribute (.Name "self" q1) "chain" q2] (.Name "chain" q3) q4]
def iS : Scope := { kind := .function, names := [(PySem.Str.ofString "self", .local), (PySem.Str.ofString "chain", .local)], isGenerator := false, isCoroutine := false, more := [] }
/-- what the written part says of Chained, at C, and of its __init__, at fI -/
abbrev ovf : List Value := [.type "RuntimeError", .type "Exception", .type "BaseException", .type "object"]
structure ChTxt (K : Frag) (mg : Str → Option Value) (C fI : Addr) : Prop where
  gC : mg "Chained" = some (.ref C)
  cls : ∃ nm q N bs bm sn sub ab col dd k0 k1 k2 k3 k5, K.lookup C = some (excClassObj nm q C N bs bm true sn sub ab col dd k0 k1 k2 k3 k5 "RuntimeError.__new__") ∧ bm = ovf
  sa : findIn K (.ref C) "__setattr__" = some (some (.builtin "object.__setattr__"))
  ga : findIn K (.ref C) "__getattribute__" = some (some (.builtin "BaseException.__getattribute__"))
  gg : findIn K (.ref C) "__getattr__" = some none
  noN : findIn K (.ref C) "chain" = some none
  iC : findIn K (.ref C) "__init__" = some (some (.ref fI))
  tC : typeIn K (.ref fI) = some (.type "function")
  kC : keepIn K (.ref C) = true
  exC : subIn K (.ref C) (.type "BaseException") = some true
  tyC : typeIn K (.ref C) = some (.type "type")
  hdC : hasDictIn K C = true
  te : exmOne K (.ref C) (.ref C) = some true
  fn : ∃ (oc : Value) (od : Option Addr) (doc pm : Value) (an : Option Addr) (cdv ct : Value) (osl : Array (Option Value)) (p1 p2 q1 q2 q3 q4 : Pos),
    K.lookup fI = some ⟨oc, od, .func (fnOf "__init__" "Chained.__init__" (iA p1 p2) (iB q1 q2 q3 q4) iS .none .none doc pm an cdv ct), osl⟩ ∧ codeIn K cdv "Chained.__init__" = true
theorem one_size (v : Value) : [v].length ≤ sizeLine := by
  rw [sizeLine_eq]
  exact (by decide : 1 ≤ 16777216)
theorem kept_but {K : Frag} {h h' : Heap} {x : Addr} (X : K.In h) (hx : K.lookup x = none) (k : ∀ b o, b ≠ x → h.get? b = some o → h'.get? b = some o) : K.In h' := fun a o e =>
  k a o (fun z => by rw [z, hx] at e; cases e) (X a o e)
theorem ldC {M : Model} {s : Shared} {name : Str} {scope : Scope} {L a : Addr} {cd : Value} {m : Str → Option Value} {x : Str} {pos : Pos} {v : Value} {Q : Value → Shared → Prop} {A : Around} {E : Value → Shared → Prop} (hn : s.heap.Ns L m) (hv : m x = some v) (h : Q v s)
    (hk : scope.kind = .function := by rfl) (hl : (envOfC name scope L a cd).kindOf x = some .local := by rfl) (hd : (x == ("__debug__" : Str)) = false := by decide) :
    wpAny M A (eval (.Name x pos) (envOfC name scope L a cd)) Q E s := wpAny_Name (wpAny_loadName_local hk hl hn hv h) hd
/-- what __init__ leaves of a fresh exception at x -/
structure InitEnd (h h' : Heap) (x C dx t1 : Addr) (v : Value) : Prop where
  keep : ∀ b o, b ≠ x → h.get? b = some o → h'.get? b = some o
  obj : h'.get? x = some { cls := .ref C, dict := some dx, data := .fields #[.ref t1, .none, .none, .none, .bool false, .none] }
  dbig : h.objs.size ≤ dx
  dne : dx ≠ x
  ns : h'.Ns1 dx (fun y => if y = "chain" then some v else none)
/-- a made Low -/
structure OwnMade (h h' : Heap) (e C d : Addr) (v : Value) : Prop where
  keep : ∀ b o, h.get? b = some o → h'.get? b = some o
  new : h.objs.size ≤ e
  obj : ∃ oe vs, h'.get? e = some oe ∧ oe.cls = .ref C ∧ oe.dict = some d ∧ oe.data = .fields vs ∧ vs[1]? = some .none
  dbig : h.objs.size ≤ d
  dne : d ≠ e
  ns : h'.Ns1 d (fun y => if y = "chain" then some v else none)
section
variable {prog : Program} {w : World} {A : Around} {E : Value → Shared → Prop} {R : Result → Shared → Prop} {s : Shared} {K : Frag} {mg : Str → Option Value} {C fI : Addr}
theorem ch_init (T : ChTxt K mg C fI) {x t0 : Addr} {v : Value} (X : K.In s.heap) (hlim : s.heap.NoLimit) (hx : s.heap.get? x = some (excO C t0)) (hnx : K.lookup x = none) (hroom : A.depth < recursionLimit)
    (hq : ∀ h' tk dx, InitEnd s.heap h' x C dx t0 v → R (.ok (.ret .none)) { s with heap := h', toks := tk }) :
    codeAny (model prog w) A (.call (.ref fI) ⟨[.ref x, v], []⟩) R s := by
  obtain ⟨oc, od, doc, pm, an, cdv, ct, osl, p1, p2, q1, q2, q3, q4, ho, hcd⟩ := T.fn
  obtain ⟨nm, q, N, bs, bm, sn, sub, ab, col, dd, k0, k1, k2, k3, k5, hC, hbm⟩ := T.cls
  have hcl : clsIn K C = some { name := nm, bases := bs, mro := .ref C :: bm, ns := N, qualname := q, hasDict := true, slotNames := sn, subclasses := sub, abstract := ab, collection := col, hasDel := false } := by unfold clsIn; rw [hC] <;> rfl
  refine Att.call_fn (binds := [("self", .ref x), ("chain", v)]) X hlim ho hcd hroom (BindsTo.of_eq (by first | rfl | with_unfolding_all rfl)) (by first | rfl | decide | with_unfolding_all rfl) (fun s₁ IC => ?_) rfl rfl rfl
  obtain ⟨h₁, tk₁, rfl⟩ := IC.toInCall.same
  have k : ∀ b o, s.heap.get? b = some o → h₁.get? b = some o := IC.toInCall.keep
  have hn := IC.toInCall.ns
  have hxL : s.heap.objs.size ≠ x := Nat.ne_of_gt (Heap.lt_size hx)
  have X₁ : K.In h₁ := X.keeps k
  have hx₁ := k _ _ hx
  -- self.by = by
  show wpAny _ _ (execs _ _) _ _ _
  refine wpAny_execs_cons (plainObj_wpAny_Assign_Attribute ?_)
  refine ldC (v := v) hn (by first | rfl | with_unfolding_all rfl | kernel_rfl) (ldC (v := .ref x) hn (by first | rfl | with_unfolding_all rfl | kernel_rfl) ?_)
  refine set_plain X₁ (ox := excO C t0) (od := none) ⟨hx₁, rfl, rfl, trivial⟩ T.sa ?_
  refine ErX.osa_first X₁ hx₁ hcl (fun self => by
    show refuseLoop self "__setattr__" (.ref C :: bm) = pure ()
    rw [refuseLoop_ref, hbm]
    exact F.store_RuntimeError.passes self) rfl (by
    show (Value.ref C :: bm).contains (.type "object") = true
    rw [hbm]
    rfl) rfl T.noN (fun h₃ tk₃ dx k₃ dn dne hx₃ hn₃ => ?_)
  show wpAny _ _ (execs _ _) _ _ _
  have z : s.heap.objs.size < h₁.objs.size := hn.lt
  exact wpAny_execs_nil (hq h₃ tk₃ dx ⟨fun b o hb e => k₃ b o hb (k b o e), hx₃, Nat.le_of_lt (Nat.lt_of_lt_of_le z dn), dne, hn₃⟩)
theorem ch_made (T : ChTxt K mg C fI) {v : Value} (X : K.In s.heap) (hlim : s.heap.NoLimit) (hroom : A.depth + 1 < recursionLimit)
    (hq : ∀ h' tk e d, OwnMade s.heap h' e C d v → R (.ok (.ret (.ref e))) { s with heap := h', toks := tk }) :
    codeAny (model prog w) A (.call (.ref C) ⟨[v], []⟩) R s := by
  obtain ⟨nm, q, N, bs, bm, sn, sub, ab, col, dd, k0, k1, k2, k3, k5, hC, hbm⟩ := T.cls
  obtain ⟨hp, g, dr, tk, os⟩ := s
  have k : ∀ b o, hp.get? b = some o → ((hp.push (kdv_tup [v])).push (excO C hp.objs.size)).get? b = some o := fun b o e => Heap.get?_push_of_some _ (Heap.get?_push_of_some _ e)
  have hget : ((hp.push (kdv_tup [v])).push (excO C hp.objs.size)).get? (hp.objs.size + 1) = some (excO C hp.objs.size) := by heap_get
  have hnx : K.lookup (hp.objs.size + 1) = none := by
    cases e : K.lookup (hp.objs.size + 1) with
    | none => rfl
    | some o =>
      have z : hp.get? (hp.objs.size + 1) = some o := X _ _ e
      exact absurd (Nat.lt_of_succ_lt (Heap.lt_size z)) (Nat.lt_irrefl _)
  refine call_own F.excBase_RuntimeError (fun X => by rw [hbm]) (X _ _ hC) (looks_findIn X T.iC) (fun self => bind_fn X self T.tC) (one_size v) ?_
  refine ch_init (s := ⟨(hp.push (kdv_tup [v])).push (excO C hp.objs.size), g, dr, tk, os⟩) T (X.keeps k) (hlim.keeps k) hget hnx ?_ fun h' tk' dx ⟨k', hx, dn, dne, hns⟩ => ?_
  · show A.depth + 1 < recursionLimit
    exact hroom
  · have old : ∀ b o, hp.get? b = some o → h'.get? b = some o := fun b o e => k' b o (Nat.ne_of_lt (Nat.lt_succ_of_lt (Heap.lt_size e))) (k b o e)
    have z : hp.objs.size + 1 + 1 ≤ dx := by
      first
        | (simpa only [Heap.size_push] using dn)
        | exact dn
        | (have q := dn; rw [Heap.size_push, Heap.size_push] at q; exact q)
    exact ⟨rfl, hq h' tk' (hp.objs.size + 1) dx ⟨old, Nat.le_succ _, ⟨_, _, hx, rfl, rfl, rfl, rfl⟩, Nat.le_trans (Nat.le_trans (Nat.le_succ _) (Nat.le_succ _)) z, dne, hns⟩⟩
end
end ChX
end PySem
namespace L2
open PySem PySem.Spec PyProof.Rows
theorem relO_ch {v : V} {v' : Value} (r : RelV v v') (f : Str) : RelO (List.lookup f [(("chain" : Str), v)]) (if f = "chain" then some v' else none) := by
  by_cases hw : f = "chain"
  · subst hw
    rw [if_pos rfl]
    have q : List.lookup ("chain" : Str) [(("chain" : Str), v)] = some v := by simp [List.lookup]
    rw [q]
    exact r
  · rw [if_neg hw]
    have qw : (f == ("chain" : Str)) = false := by simpa using hw
    have q2 : List.lookup f [(("chain" : Str), v)] = none := by simp [List.lookup, qw]
    rw [q2]
    trivial
section
variable {X : Cx} {C fI : Addr}
/-- Low(e) -/
def tMkCh (C : Addr) (ta : TA) : St → Hp → XK → Prop := fun σ H Q => ta σ H fun vs H1 => ∃ v, vs = [v] ∧ ∀ d, H1 d = none → Q (.ref C) (some d) (upd H1 d (.xd [(("chain" : Str), v)]))
theorem pmk_ch {a : Expr} {ta : TA} {p pos : Pos} {k : Nat} (T : PySem.ChX.ChTxt X.K X.mg C fI) (hr : Room k X.A) (ha : PA X [a] ta) (hg : Gl X "Chained" := by rfl)
    (he : starEach (a :: []) X.env = (false, eval a X.env) :: starEach [] X.env := by rfl) (hpl : (backTo pos (starEach [] X.env)).any (·.1) = false := by rfl) :
    PMk X (.Call (.Name "Chained" p) [a] [] pos) (tMkCh C ta) := by
  intro pins s σ H Q I h
  refine wpAny_Call_Name_kw (ld_glob I hg T.gC ?_)
  refine PySem.W.callWith_K (h₀ := X.base) I.ok.mod.kin T.kC (thn (ha.run pos pins s σ H _ I h) fun us s1 hh => ?_) he hpl
  obtain ⟨vs, H1, I1, r1, v, ev, q1⟩ := hh
  subst ev
  refine ⟨I1.kIn, ?_⟩
  cases r1 with
  | cons rv rn =>
    rename_i v' us'
    cases rn
    show wpAny _ _ (call (.ref C) [v']) _ _ _
    have hlim := I1.nolimit
    obtain ⟨hp, g, dr, tk, os⟩ := s1
    refine wpAny_call (PySem.ChX.ch_made T I1.kIn hlim (by have := hr.dp; omega) fun h' tk' e d M => ?_)
    show MkP X pins σ Q (.ref e) ⟨h', g, dr, tk', os⟩
    obtain ⟨oe, fv, hoe, hc, hd, hdat, h1⟩ := M.obj
    have hns := M.ns
    obtain ⟨G', g1, g2⟩ := restrict h' fun b => decide (b ≠ e)
    have gk : ∀ b, b ≠ e → G'.get? b = h'.get? b := fun b hb => g1 b (decide_eq_true hb)
    have ge : G'.get? e = none := g2 e (by simp)
    have old : ∀ b o, hp.get? b = some o → G'.get? b = some o := fun b o q => (gk b (Nat.ne_of_lt (Nat.lt_of_lt_of_le (Heap.lt_size q) M.new))).trans (M.keep b o q)
    have ob : ObjOk X.prog X.w (upd H1 d (.xd [(("chain" : Str), v)])) G' d (.xd [(("chain" : Str), v)]) :=
      ⟨_, hns.at (fun o q => (gk d M.dne).trans q), fun f => relO_ch rv f⟩
    have J : Inv X pins σ (upd H1 d (.xd [(("chain" : Str), v)])) ⟨G', g, dr, tk', os⟩ := I1.laid (t' := tk') old M.dbig ob
    refine ⟨e, oe, fv, ⟨G', g, dr, tk', os⟩, _, .ref C, some d, rfl, J, fun b o q => ?_, ge, hoe, ⟨hc, hd⟩, hdat, h1, ?_, rfl, I1.bare, raises_own T.exC T.tyC, q1 d (I1.hok.fresh M.dbig)⟩
    · by_cases hb : b = e
      · have q' : G'.get? b = some o := q
        rw [hb, ge] at q'; cases q'
      · exact (gk b hb).symm.trans q
    · rw [upd_ne (Ne.symm M.dne)]
      exact I1.hok.fresh M.new
/-- raise Low(e) -/
def tRaiseCh (C : Addr) (W : WX) (ta : TA) : TS := fun _ σ H => tMkCh C ta σ H fun cls d H' => W cls d σ H'
theorem ps_raiseCh {a : Expr} {ta : TA} {W : WX} {p pos pos2 : Pos} {k : Nat} (hc : X.calm = true) (T : PySem.ChX.ChTxt X.K X.mg C fI) (hr : Room k X.A) (tk : Takes X W) (ha : PA X [a] ta) (hg : Gl X "Chained" := by rfl)
    (he : starEach (a :: []) X.env = (false, eval a X.env) :: starEach [] X.env := by rfl) (hpl : (backTo pos (starEach [] X.env)).any (·.1) = false := by rfl) :
    PS X (.Raise (some (.Call (.Name "Chained" p) [a] [] pos)) none pos2) (tRaiseCh C W ta) := ps_raise hc tk (pmk_ch T hr ha hg he hpl)
/-- low.by, low the exception that the suite holds (at a; its class cls, its dict d) -/
def tByCh (C : Addr) (a : Addr) (cls : Value) (d : Option Addr) (te : TE) : TE := fun σ H Q => te σ H fun x H1 => x = .ref a ∧ cls = .ref C ∧ ∃ (dd : Addr) (v : V), d = some dd ∧ H1 dd = some (.xd [(("chain" : Str), v)]) ∧ Q v H1
theorem pe_byCh {a : Addr} {oe : Obj} {cls : Value} {d : Option Addr} {pn : List (Addr × Obj)} {e : Expr} {te : TE} {pos : Pos} (T : PySem.ChX.ChTxt X.K X.mg C fI) (hz : Zc cls d oe) (hf : ∃ vs, oe.data = .fields vs) (he : PE (X.suite a ((a, oe) :: pn)) e te)
    (hb : attributeBase e "chain" X.env (eval e X.env) = eval e X.env := by rfl) :
    PE (X.suite a ((a, oe) :: pn)) (.Attribute e "chain" pos) (tByCh C a cls d te) := by
  refine ⟨fun pins s σ H Q I h => ?_⟩
  refine attr_of hb (thn (he.run pins s σ H _ I h) fun u s1 hh => ?_)
  obtain ⟨x, H1, I1, rx, ex, ec, dd, v, ed, ea, q⟩ := hh
  subst ex
  obtain rfl : u = Value.ref a := rx
  subst ec
  subst ed
  obtain ⟨ha, _⟩ := I1.pin (a, oe) (List.mem_append_left _ List.mem_cons_self)
  obtain ⟨vs, hd⟩ := hf
  have hx : ObjOk X.prog X.w H1 s1.heap dd (.xd [(("chain" : Str), v)]) := I1.hok dd _ ea
  obtain ⟨mA, hns, hr⟩ := hx
  obtain ⟨od, ho, hl⟩ := lookIn_ns hns
  have l : List.lookup ("chain" : Str) [(("chain" : Str), v)] = some v := by simp [List.lookup]
  obtain ⟨u, hu, ru⟩ := RelO.some_of (v := v) (o := mA "chain") (by rw [← l]; exact hr "chain")
  have J : PySem.W.InstAt s1.heap a oe C (some od) := ⟨ha, hz.1, by unfold PySem.W.notCls; rw [hd] <;> rfl, by rw [hz.2]; exact ho⟩
  exact HandSPX.exc_get I1.kIn J T.ga T.gg T.exC (PySem.W.findObj_own T.hdC T.noN rfl (by rw [hl, hu])) (handed_of ru) ⟨v, H1, I1.tok _, ru, q⟩
end
end L2

set_option Elab.async false
set_option linter.all false
set_option maxRecDepth 100000
set_option maxHeartbeats 400000
namespace Sl
open PySem PySem.Spec PyProof.Rows L2
section
variable {X : Cx} {C fI : Addr}
/-- Chained(e), as a value -/
theorem pe_chV {a : Expr} {ta : TA} {p pos : Pos} {k : Nat} (T : PySem.ChX.ChTxt X.K X.mg C fI) (hr : Room k X.A) (ha : PA X [a] ta) (hg : Gl X "Chained" := by rfl)
    (he : starEach (a :: []) X.env = (false, eval a X.env) :: starEach [] X.env := by rfl) (hpl : (backTo pos (starEach [] X.env)).any (·.1) = false := by rfl) :
    PE X (.Call (.Name "Chained" p) [a] [] pos) (fun σ H Q => ta σ H fun vs H1 => ∃ v, vs = [v] ∧ ∀ a d, H1 a = none → H1 d = none → a ≠ d → Q (.ref a) (upd (upd H1 d (.xd [(("chain" : Str), v)])) a (EO C (some d) a))) := by
  refine ⟨fun pins s σ H Q I h => ?_⟩
  refine wpAny_Call_Name_kw (ld_glob I hg T.gC ?_)
  refine PySem.W.callWith_K (h₀ := X.base) I.ok.mod.kin T.kC (thn (ha.run pos pins s σ H _ I h) fun us s1 hh => ?_) he hpl
  obtain ⟨vs, H1, I1, r1, v, ev, q1⟩ := hh
  subst ev
  refine ⟨I1.kIn, ?_⟩
  obtain ⟨v', rfl, rv⟩ := r1.one
  show wpAny _ _ (call (.ref C) [v']) _ _ _
  have hlim := I1.nolimit
  obtain ⟨hp, g, dr, tk, os⟩ := s1
  refine wpAny_call (PySem.ChX.ch_made T I1.kIn hlim (by have := hr.dp; omega) fun h' tk' e d M => ?_)
  obtain ⟨oe, fv, hoe, hc, hd, hdat, h1⟩ := M.obj
  obtain ⟨G, g1, g2⟩ := restrict h' fun b => decide (b ≠ e)
  have gk : ∀ b, b ≠ e → G.get? b = h'.get? b := fun b hb => g1 b (decide_eq_true hb)
  have ge : G.get? e = none := g2 e (by simp)
  have old : ∀ b o, hp.get? b = some o → G.get? b = some o := fun b o q => (gk b (Nat.ne_of_lt (Nat.lt_of_lt_of_le (Heap.lt_size q) M.new))).trans (M.keep b o q)
  have ob : ObjOk X.prog X.w (upd H1 d (.xd [(("chain" : Str), v)])) G d (.xd [(("chain" : Str), v)]) := ⟨_, M.ns.at (fun o q => (gk d M.dne).trans q), fun f => relO_ch rv f⟩
  have J : Inv X pins σ (upd H1 d (.xd [(("chain" : Str), v)])) ⟨G, g, dr, tk', os⟩ := I1.laid (t' := tk') old M.dbig ob
  have fe : H1 e = none := I1.hok.fresh M.new
  have fd : H1 d = none := I1.hok.fresh M.dbig
  have back : ∀ b o, G.get? b = some o → h'.get? b = some o := fun b o q => by
    by_cases hb : b = e
    · rw [hb, ge] at q
      cases q
    · rw [← gk b hb]
      exact q
  have J2 := J.laidN (h' := h') (a := e) (o := EO C (some d) e) (t' := tk') back ge (by rw [upd_ne (Ne.symm M.dne)]; exact fe) (eo_ok hoe hc hd hdat)
  exact ⟨.ref e, _, J2, rfl, q1 e d fe fd (Ne.symm M.dne)⟩
end
end Sl

set_option Elab.async false
set_option linter.all false
set_option maxRecDepth 100000
set_option maxHeartbeats 2000000
namespace PySem
namespace NuX
open PySem.W PySem.Calls PyProof.Rows PySem.HandSPX
/-! ### the text of __init__ -/
def iA (p1 p2 : Pos) : Arguments := { posonlyargs := [], args := [{ arg := "self", annotation := none, pos := p1 }, { arg := "many", annotation := none, pos := p2 }], vararg := none, kwonlyargs := [], kw_defaults := [], kwarg := none, defaults := [] }
def iB (q1 q2 q3 q4 : Pos) : List Stmt := [.Assign [.Attribute (.Name "self" q1) "many" q2] (.Name "many" q3) q4]
def iS : Scope := { kind := .function, names := [(PySem.Str.ofString "self", .local), (PySem.Str.ofString "many", .local)], isGenerator := false, isCoroutine := false, more := [] }
/-- what the written part says of NothingToUndo, at C, and of its __init__, at fI -/
abbrev ovf : List Value := [.type "LookupError", .type "Exception", .type "BaseException", .type "object"]
structure NuTxt (K : Frag) (mg : Str → Option Value) (C fI : Addr) : Prop where
  gC : mg "NothingToUndo" = some (.ref C)
  cls : ∃ nm q N bs bm sn sub ab col dd k0 k1 k2 k3 k5, K.lookup C = some (excClassObj nm q C N bs bm true sn sub ab col dd k0 k1 k2 k3 k5 "LookupError.__new__") ∧ bm = ovf
  sa : findIn K (.ref C) "__setattr__" = some (some (.builtin "object.__setattr__"))
  ga : findIn K (.ref C) "__getattribute__" = some (some (.builtin "BaseException.__getattribute__"))
  gg : findIn K (.ref C) "__getattr__" = some none
  noN : findIn K (.ref C) "many" = some none
  iC : findIn K (.ref C) "__init__" = some (some (.ref fI))
  tC : typeIn K (.ref fI) = some (.type "function")
  kC : keepIn K (.ref C) = true
  exC : subIn K (.ref C) (.type "BaseException") = some true
  tyC : typeIn K (.ref C) = some (.type "type")
  hdC : hasDictIn K C = true
  te : exmOne K (.ref C) (.ref C) = some true
  fn : ∃ (oc : Value) (od : Option Addr) (doc pm : Value) (an : Option Addr) (cdv ct : Value) (osl : Array (Option Value)) (p1 p2 q1 q2 q3 q4 : Pos),
    K.lookup fI = some ⟨oc, od, .func (fnOf "__init__" "NothingToUndo.__init__" (iA p1 p2) (iB q1 q2 q3 q4) iS .none .none doc pm an cdv ct), osl⟩ ∧ codeIn K cdv "NothingToUndo.__init__" = true
theorem one_size (v : Value) : [v].length ≤ sizeLine := by
  rw [sizeLine_eq]
  exact (by decide : 1 ≤ 16777216)
theorem kept_but {K : Frag} {h h' : Heap} {x : Addr} (X : K.In h) (hx : K.lookup x = none) (k : ∀ b o, b ≠ x → h.get? b = some o → h'.get? b = some o) : K.In h' := fun a o e =>
  k a o (fun z => by rw [z, hx] at e; cases e) (X a o e)
theorem ldC {M : Model} {s : Shared} {name : Str} {scope : Scope} {L a : Addr} {cd : Value} {m : Str → Option Value} {x : Str} {pos : Pos} {v : Value} {Q : Value → Shared → Prop} {A : Around} {E : Value → Shared → Prop} (hn : s.heap.Ns L m) (hv : m x = some v) (h : Q v s)
    (hk : scope.kind = .function := by rfl) (hl : (envOfC name scope L a cd).kindOf x = some .local := by rfl) (hd : (x == ("__debug__" : Str)) = false := by decide) :
    wpAny M A (eval (.Name x pos) (envOfC name scope L a cd)) Q E s := wpAny_Name (wpAny_loadName_local hk hl hn hv h) hd
/-- what __init__ leaves of a fresh exception at x -/
structure InitEnd (h h' : Heap) (x C dx t1 : Addr) (v : Value) : Prop where
  keep : ∀ b o, b ≠ x → h.get? b = some o → h'.get? b = some o
  obj : h'.get? x = some { cls := .ref C, dict := some dx, data := .fields #[.ref t1, .none, .none, .none, .bool false, .none] }
  dbig : h.objs.size ≤ dx
  dne : dx ≠ x
  ns : h'.Ns1 dx (fun y => if y = "many" then some v else none)
/-- a made Low -/
structure OwnMade (h h' : Heap) (e C d : Addr) (v : Value) : Prop where
  keep : ∀ b o, h.get? b = some o → h'.get? b = some o
  new : h.objs.size ≤ e
  obj : ∃ oe vs, h'.get? e = some oe ∧ oe.cls = .ref C ∧ oe.dict = some d ∧ oe.data = .fields vs ∧ vs[1]? = some .none
  dbig : h.objs.size ≤ d
  dne : d ≠ e
  ns : h'.Ns1 d (fun y => if y = "many" then some v else none)
section
variable {prog : Program} {w : World} {A : Around} {E : Value → Shared → Prop} {R : Result → Shared → Prop} {s : Shared} {K : Frag} {mg : Str → Option Value} {C fI : Addr}
theorem nu_init (T : NuTxt K mg C fI) {x t0 : Addr} {v : Value} (X : K.In s.heap) (hlim : s.heap.NoLimit) (hx : s.heap.get? x = some (excO C t0)) (hnx : K.lookup x = none) (hroom : A.depth < recursionLimit)
    (hq : ∀ h' tk dx, InitEnd s.heap h' x C dx t0 v → R (.ok (.ret .none)) { s with heap := h', toks := tk }) :
    codeAny (model prog w) A (.call (.ref fI) ⟨[.ref x, v], []⟩) R s := by
  obtain ⟨oc, od, doc, pm, an, cdv, ct, osl, p1, p2, q1, q2, q3, q4, ho, hcd⟩ := T.fn
  obtain ⟨nm, q, N, bs, bm, sn, sub, ab, col, dd, k0, k1, k2, k3, k5, hC, hbm⟩ := T.cls
  have hcl : clsIn K C = some { name := nm, bases := bs, mro := .ref C :: bm, ns := N, qualname := q, hasDict := true, slotNames := sn, subclasses := sub, abstract := ab, collection := col, hasDel := false } := by unfold clsIn; rw [hC] <;> rfl
  refine Att.call_fn (binds := [("self", .ref x), ("many", v)]) X hlim ho hcd hroom (BindsTo.of_eq (by first | rfl | with_unfolding_all rfl)) (by first | rfl | decide | with_unfolding_all rfl) (fun s₁ IC => ?_) rfl rfl rfl
  obtain ⟨h₁, tk₁, rfl⟩ := IC.toInCall.same
  have k : ∀ b o, s.heap.get? b = some o → h₁.get? b = some o := IC.toInCall.keep
  have hn := IC.toInCall.ns
  have hxL : s.heap.objs.size ≠ x := Nat.ne_of_gt (Heap.lt_size hx)
  have X₁ : K.In h₁ := X.keeps k
  have hx₁ := k _ _ hx
  -- self.by = by
  show wpAny _ _ (execs _ _) _ _ _
  refine wpAny_execs_cons (plainObj_wpAny_Assign_Attribute ?_)
  refine ldC (v := v) hn (by first | rfl | with_unfolding_all rfl | kernel_rfl) (ldC (v := .ref x) hn (by first | rfl | with_unfolding_all rfl | kernel_rfl) ?_)
  refine set_plain X₁ (ox := excO C t0) (od := none) ⟨hx₁, rfl, rfl, trivial⟩ T.sa ?_
  refine ErX.osa_first X₁ hx₁ hcl (fun self => by
    show refuseLoop self "__setattr__" (.ref C :: bm) = pure ()
    rw [refuseLoop_ref, hbm]
    exact F.store_LookupError.passes self) rfl (by
    show (Value.ref C :: bm).contains (.type "object") = true
    rw [hbm]
    rfl) rfl T.noN (fun h₃ tk₃ dx k₃ dn dne hx₃ hn₃ => ?_)
  show wpAny _ _ (execs _ _) _ _ _
  have z : s.heap.objs.size < h₁.objs.size := hn.lt
  exact wpAny_execs_nil (hq h₃ tk₃ dx ⟨fun b o hb e => k₃ b o hb (k b o e), hx₃, Nat.le_of_lt (Nat.lt_of_lt_of_le z dn), dne, hn₃⟩)
theorem nu_made (T : NuTxt K mg C fI) {v : Value} (X : K.In s.heap) (hlim : s.heap.NoLimit) (hroom : A.depth + 1 < recursionLimit)
    (hq : ∀ h' tk e d, OwnMade s.heap h' e C d v → R (.ok (.ret (.ref e))) { s with heap := h', toks := tk }) :
    codeAny (model prog w) A (.call (.ref C) ⟨[v], []⟩) R s := by
  obtain ⟨nm, q, N, bs, bm, sn, sub, ab, col, dd, k0, k1, k2, k3, k5, hC, hbm⟩ := T.cls
  obtain ⟨hp, g, dr, tk, os⟩ := s
  have k : ∀ b o, hp.get? b = some o → ((hp.push (kdv_tup [v])).push (excO C hp.objs.size)).get? b = some o := fun b o e => Heap.get?_push_of_some _ (Heap.get?_push_of_some _ e)
  have hget : ((hp.push (kdv_tup [v])).push (excO C hp.objs.size)).get? (hp.objs.size + 1) = some (excO C hp.objs.size) := by heap_get
  have hnx : K.lookup (hp.objs.size + 1) = none := by
    cases e : K.lookup (hp.objs.size + 1) with
    | none => rfl
    | some o =>
      have z : hp.get? (hp.objs.size + 1) = some o := X _ _ e
      exact absurd (Nat.lt_of_succ_lt (Heap.lt_size z)) (Nat.lt_irrefl _)
  refine call_own F.excBase_LookupError (fun X => by rw [hbm]) (X _ _ hC) (looks_findIn X T.iC) (fun self => bind_fn X self T.tC) (one_size v) ?_
  refine nu_init (s := ⟨(hp.push (kdv_tup [v])).push (excO C hp.objs.size), g, dr, tk, os⟩) T (X.keeps k) (hlim.keeps k) hget hnx ?_ fun h' tk' dx ⟨k', hx, dn, dne, hns⟩ => ?_
  · show A.depth + 1 < recursionLimit
    exact hroom
  · have old : ∀ b o, hp.get? b = some o → h'.get? b = some o := fun b o e => k' b o (Nat.ne_of_lt (Nat.lt_succ_of_lt (Heap.lt_size e))) (k b o e)
    have z : hp.objs.size + 1 + 1 ≤ dx := by
      first
        | (simpa only [Heap.size_push] using dn)
        | exact dn
        | (have q := dn; rw [Heap.size_push, Heap.size_push] at q; exact q)
    exact ⟨rfl, hq h' tk' (hp.objs.size + 1) dx ⟨old, Nat.le_succ _, ⟨_, _, hx, rfl, rfl, rfl, rfl⟩, Nat.le_trans (Nat.le_trans (Nat.le_succ _) (Nat.le_succ _)) z, dne, hns⟩⟩
end
end NuX
end PySem
namespace L2
open PySem PySem.Spec PyProof.Rows
theorem relO_nu {v : V} {v' : Value} (r : RelV v v') (f : Str) : RelO (List.lookup f [(("many" : Str), v)]) (if f = "many" then some v' else none) := by
  by_cases hw : f = "many"
  · subst hw
    rw [if_pos rfl]
    have q : List.lookup ("many" : Str) [(("many" : Str), v)] = some v := by simp [List.lookup]
    rw [q]
    exact r
  · rw [if_neg hw]
    have qw : (f == ("many" : Str)) = false := by simpa using hw
    have q2 : List.lookup f [(("many" : Str), v)] = none := by simp [List.lookup, qw]
    rw [q2]
    trivial
section
variable {X : Cx} {C fI : Addr}
/-- Low(e) -/
def tMkNu (C : Addr) (ta : TA) : St → Hp → XK → Prop := fun σ H Q => ta σ H fun vs H1 => ∃ v, vs = [v] ∧ ∀ d, H1 d = none → Q (.ref C) (some d) (upd H1 d (.xd [(("many" : Str), v)]))
theorem pmk_nu {a : Expr} {ta : TA} {p pos : Pos} {k : Nat} (T : PySem.NuX.NuTxt X.K X.mg C fI) (hr : Room k X.A) (ha : PA X [a] ta) (hg : Gl X "NothingToUndo" := by rfl)
    (he : starEach (a :: []) X.env = (false, eval a X.env) :: starEach [] X.env := by rfl) (hpl : (backTo pos (starEach [] X.env)).any (·.1) = false := by rfl) :
    PMk X (.Call (.Name "NothingToUndo" p) [a] [] pos) (tMkNu C ta) := by
  intro pins s σ H Q I h
  refine wpAny_Call_Name_kw (ld_glob I hg T.gC ?_)
  refine PySem.W.callWith_K (h₀ := X.base) I.ok.mod.kin T.kC (thn (ha.run pos pins s σ H _ I h) fun us s1 hh => ?_) he hpl
  obtain ⟨vs, H1, I1, r1, v, ev, q1⟩ := hh
  subst ev
  refine ⟨I1.kIn, ?_⟩
  cases r1 with
  | cons rv rn =>
    rename_i v' us'
    cases rn
    show wpAny _ _ (call (.ref C) [v']) _ _ _
    have hlim := I1.nolimit
    obtain ⟨hp, g, dr, tk, os⟩ := s1
    refine wpAny_call (PySem.NuX.nu_made T I1.kIn hlim (by have := hr.dp; omega) fun h' tk' e d M => ?_)
    show MkP X pins σ Q (.ref e) ⟨h', g, dr, tk', os⟩
    obtain ⟨oe, fv, hoe, hc, hd, hdat, h1⟩ := M.obj
    have hns := M.ns
    obtain ⟨G', g1, g2⟩ := restrict h' fun b => decide (b ≠ e)
    have gk : ∀ b, b ≠ e → G'.get? b = h'.get? b := fun b hb => g1 b (decide_eq_true hb)
    have ge : G'.get? e = none := g2 e (by simp)
    have old : ∀ b o, hp.get? b = some o → G'.get? b = some o := fun b o q => (gk b (Nat.ne_of_lt (Nat.lt_of_lt_of_le (Heap.lt_size q) M.new))).trans (M.keep b o q)
    have ob : ObjOk X.prog X.w (upd H1 d (.xd [(("many" : Str), v)])) G' d (.xd [(("many" : Str), v)]) :=
      ⟨_, hns.at (fun o q => (gk d M.dne).trans q), fun f => relO_nu rv f⟩
    have J : Inv X pins σ (upd H1 d (.xd [(("many" : Str), v)])) ⟨G', g, dr, tk', os⟩ := I1.laid (t' := tk') old M.dbig ob
    refine ⟨e, oe, fv, ⟨G', g, dr, tk', os⟩, _, .ref C, some d, rfl, J, fun b o q => ?_, ge, hoe, ⟨hc, hd⟩, hdat, h1, ?_, rfl, I1.bare, raises_own T.exC T.tyC, q1 d (I1.hok.fresh M.dbig)⟩
    · by_cases hb : b = e
      · have q' : G'.get? b = some o := q
        rw [hb, ge] at q'; cases q'
      · exact (gk b hb).symm.trans q
    · rw [upd_ne (Ne.symm M.dne)]
      exact I1.hok.fresh M.new
/-- raise Low(e) -/
def tRaiseNu (C : Addr) (W : WX) (ta : TA) : TS := fun _ σ H => tMkNu C ta σ H fun cls d H' => W cls d σ H'
theorem ps_raiseNu {a : Expr} {ta : TA} {W : WX} {p pos pos2 : Pos} {k : Nat} (hc : X.calm = true) (T : PySem.NuX.NuTxt X.K X.mg C fI) (hr : Room k X.A) (tk : Takes X W) (ha : PA X [a] ta) (hg : Gl X "NothingToUndo" := by rfl)
    (he : starEach (a :: []) X.env = (false, eval a X.env) :: starEach [] X.env := by rfl) (hpl : (backTo pos (starEach [] X.env)).any (·.1) = false := by rfl) :
    PS X (.Raise (some (.Call (.Name "NothingToUndo" p) [a] [] pos)) none pos2) (tRaiseNu C W ta) := ps_raise hc tk (pmk_nu T hr ha hg he hpl)
/-- low.by, low the exception that the suite holds (at a; its class cls, its dict d) -/
def tByNu (C : Addr) (a : Addr) (cls : Value) (d : Option Addr) (te : TE) : TE := fun σ H Q => te σ H fun x H1 => x = .ref a ∧ cls = .ref C ∧ ∃ (dd : Addr) (v : V), d = some dd ∧ H1 dd = some (.xd [(("many" : Str), v)]) ∧ Q v H1
theorem pe_byNu {a : Addr} {oe : Obj} {cls : Value} {d : Option Addr} {pn : List (Addr × Obj)} {e : Expr} {te : TE} {pos : Pos} (T : PySem.NuX.NuTxt X.K X.mg C fI) (hz : Zc cls d oe) (hf : ∃ vs, oe.data = .fields vs) (he : PE (X.suite a ((a, oe) :: pn)) e te)
    (hb : attributeBase e "many" X.env (eval e X.env) = eval e X.env := by rfl) :
    PE (X.suite a ((a, oe) :: pn)) (.Attribute e "many" pos) (tByNu C a cls d te) := by
  refine ⟨fun pins s σ H Q I h => ?_⟩
  refine attr_of hb (thn (he.run pins s σ H _ I h) fun u s1 hh => ?_)
  obtain ⟨x, H1, I1, rx, ex, ec, dd, v, ed, ea, q⟩ := hh
  subst ex
  obtain rfl : u = Value.ref a := rx
  subst ec
  subst ed
  obtain ⟨ha, _⟩ := I1.pin (a, oe) (List.mem_append_left _ List.mem_cons_self)
  obtain ⟨vs, hd⟩ := hf
  have hx : ObjOk X.prog X.w H1 s1.heap dd (.xd [(("many" : Str), v)]) := I1.hok dd _ ea
  obtain ⟨mA, hns, hr⟩ := hx
  obtain ⟨od, ho, hl⟩ := lookIn_ns hns
  have l : List.lookup ("many" : Str) [(("many" : Str), v)] = some v := by simp [List.lookup]
  obtain ⟨u, hu, ru⟩ := RelO.some_of (v := v) (o := mA "many") (by rw [← l]; exact hr "many")
  have J : PySem.W.InstAt s1.heap a oe C (some od) := ⟨ha, hz.1, by unfold PySem.W.notCls; rw [hd] <;> rfl, by rw [hz.2]; exact ho⟩
  exact HandSPX.exc_get I1.kIn J T.ga T.gg T.exC (PySem.W.findObj_own T.hdC T.noN rfl (by rw [hl, hu])) (handed_of ru) ⟨v, H1, I1.tok _, ru, q⟩
end
end L2

set_option Elab.async false
set_option linter.all false
set_option maxRecDepth 100000
set_option maxHeartbeats 400000
namespace Sl
open PySem PySem.Spec PyProof.Rows L2
section
variable {X : Cx} {C fI : Addr}
/-- NothingToUndo(e), as a value -/
theorem pe_nuV {a : Expr} {ta : TA} {p pos : Pos} {k : Nat} (T : PySem.NuX.NuTxt X.K X.mg C fI) (hr : Room k X.A) (ha : PA X [a] ta) (hg : Gl X "NothingToUndo" := by rfl)
    (he : starEach (a :: []) X.env = (false, eval a X.env) :: starEach [] X.env := by rfl) (hpl : (backTo pos (starEach [] X.env)).any (·.1) = false := by rfl) :
    PE X (.Call (.Name "NothingToUndo" p) [a] [] pos) (fun σ H Q => ta σ H fun vs H1 => ∃ v, vs = [v] ∧ ∀ a d, H1 a = none → H1 d = none → a ≠ d → Q (.ref a) (upd (upd H1 d (.xd [(("many" : Str), v)])) a (EO C (some d) a))) := by
  refine ⟨fun pins s σ H Q I h => ?_⟩
  refine wpAny_Call_Name_kw (ld_glob I hg T.gC ?_)
  refine PySem.W.callWith_K (h₀ := X.base) I.ok.mod.kin T.kC (thn (ha.run pos pins s σ H _ I h) fun us s1 hh => ?_) he hpl
  obtain ⟨vs, H1, I1, r1, v, ev, q1⟩ := hh
  subst ev
  refine ⟨I1.kIn, ?_⟩
  obtain ⟨v', rfl, rv⟩ := r1.one
  show wpAny _ _ (call (.ref C) [v']) _ _ _
  have hlim := I1.nolimit
  obtain ⟨hp, g, dr, tk, os⟩ := s1
  refine wpAny_call (PySem.NuX.nu_made T I1.kIn hlim (by have := hr.dp; omega) fun h' tk' e d M => ?_)
  obtain ⟨oe, fv, hoe, hc, hd, hdat, h1⟩ := M.obj
  obtain ⟨G, g1, g2⟩ := restrict h' fun b => decide (b ≠ e)
  have gk : ∀ b, b ≠ e → G.get? b = h'.get? b := fun b hb => g1 b (decide_eq_true hb)
  have ge : G.get? e = none := g2 e (by simp)
  have old : ∀ b o, hp.get? b = some o → G.get? b = some o := fun b o q => (gk b (Nat.ne_of_lt (Nat.lt_of_lt_of_le (Heap.lt_size q) M.new))).trans (M.keep b o q)
  have ob : ObjOk X.prog X.w (upd H1 d (.xd [(("many" : Str), v)])) G d (.xd [(("many" : Str), v)]) := ⟨_, M.ns.at (fun o q => (gk d M.dne).trans q), fun f => relO_nu rv f⟩
  have J : Inv X pins σ (upd H1 d (.xd [(("many" : Str), v)])) ⟨G, g, dr, tk', os⟩ := I1.laid (t' := tk') old M.dbig ob
  have fe : H1 e = none := I1.hok.fresh M.new
  have fd : H1 d = none := I1.hok.fresh M.dbig
  have back : ∀ b o, G.get? b = some o → h'.get? b = some o := fun b o q => by
    by_cases hb : b = e
    · rw [hb, ge] at q
      cases q
    · rw [← gk b hb]
      exact q
  have J2 := J.laidN (h' := h') (a := e) (o := EO C (some d) e) (t' := tk') back ge (by rw [upd_ne (Ne.symm M.dne)]; exact fe) (eo_ok hoe hc hd hdat)
  exact ⟨.ref e, _, J2, rfl, q1 e d fe fd (Ne.symm M.dne)⟩
end
end Sl

set_option Elab.async false
set_option linter.all false
set_option maxRecDepth 100000
set_option maxHeartbeats 400000
namespace Sl
open PySem PySem.Spec PyProof.Rows L2
def topZ (i : Nat) : Stmt := PySem.Challenge.pw_sharedlets_k00_errors.main.body.getD i (.Pass ⟨0, 0, 0, 0⟩)
abbrev sMsg : Stmt := topZ 17
abbrev sKinds : Stmt := topZ 18
theorem scMsg : FnScope ["_law_error", "_law_one"] ["_law_error"] (defScope sMsg) := ⟨rfl, rfl, rfl, by decide +kernel, rfl, by decide +kernel, by decide +kernel⟩
theorem scKinds : FnScope ["_law_error", "_law_found"] ["_law_error"] (defScope sKinds) := ⟨rfl, rfl, rfl, by decide +kernel, rfl, by decide +kernel, by decide +kernel⟩
structure Bz (mg : Str → Option Value) : Prop where
  isi : mg "isinstance" = none
  ve : mg "ValueError" = none
  ie : mg "IndexError" = none
  le : mg "LookupError" = none
  ke : mg "KeyError" = none
  oe : mg "OverflowError" = none
  re : mg "RuntimeError" = none
  rp : mg "repr" = none
  en : mg "enumerate" = none
  rg : mg "range" = none
  int : mg "int" = none
  abs : mg "abs" = none
/-- a class of an error with a message -/
structure MsgC (K : PySem.W.Frag) (CL D : Addr) : Prop where
  er : ErC K D
  l : PySem.W.kitOne K (.ref D) (.ref CL) = some true
  v : PySem.W.kitOne K (.ref D) (.type "ValueError") = some true
  i : PySem.W.kitOne K (.ref D) (.type "IndexError") = some false
  k : PySem.W.kitOne K (.ref D) (.type "LookupError") = some false
theorem IsE.same {G G' : Hp} {a D : Addr} (s : Same G G') (h : IsE G a D) : IsE G' a D := by
  rcases h with h | ⟨d, fs, h1, h2⟩
  · exact .inl (s _ _ h)
  · exact .inr ⟨d, fs, s _ _ h1, s _ _ h2⟩
section
variable {P : Program} {w : World} {K : PySem.W.Frag} {mg : Str → Option Value} {base : Heap} {CL : Addr}
def spMsg (K : PySem.W.Frag) (CL : Addr) : Sp := fun vs H Q _ => ∃ a D, vs = [.ref a] ∧ IsE H a D ∧ MsgC K CL D ∧ ∀ H', Same H H' → Q (.bl true) H'
theorem ok_msg {f : Addr} {fd : FuncData} (F : Fun K "_law_with_message_right" "_law_with_message_right" sMsg f fd) (gL : mg "LetError" = some (.ref CL)) (B : Bz mg) : FnOk P w K mg base CX0 1 f fd ["_law_error"] (spMsg K CL) := by
  refine F.ok scMsg (fun vs H Q E h => ?_) (fun cdv A outer s H vs Q E hr h => ?_)
  · obtain ⟨a, D, rfl, _⟩ := h
    rfl
  · obtain ⟨a, D, rfl, he, hc, q⟩ := h
    refine ⟨_, (pss_cons (ps_if (PW.pt (pw_or (pt_not (pt_val (pe_callB call_isX (by rfl) B.isi (by decide +kernel) (pa_cons (pv 0) (pa_cons (pe_glob (v := .ref CL) (by rfl) gL rfl) pa_nil)))))
          (pw_or1 (pt_not (pt_val (pe_callB call_isX (by rfl) B.isi (by decide +kernel) (pa_cons (pv 0) (pa_cons (pe_bltn (v := .ty "ValueError") (by rfl) B.ve (by decide +kernel) rfl) pa_nil))))))))
        (pss_one (ps_ret pe_bl))
        pss_nil)
      (pss_one (ps_ret (pe_cmpR (op_eqL0 hr.units) (pe_lc (own := [("_law_one", 1)]) (g := gName 1) (tt := tB (tVar 1)) rfl scMsg.nd
          (pi_tup (pe_tup (pa_cons (pe_callB call_isX (by rfl) B.isi (by decide +kernel) (pa_cons (pv 0) (pa_cons (pe_bltn (v := .ty "IndexError") (by rfl) B.ie (by decide +kernel) rfl) pa_nil))) (pa_cons (pe_callB call_isX (by rfl) B.isi (by decide +kernel) (pa_cons (pv 0) (pa_cons (pe_bltn (v := .ty "LookupError") (by rfl) B.le (by decide +kernel) rfl) pa_nil))) pa_nil))))
          (blkOk_by (own := [("_law_one", 1)]) (N := ["_law_error", "_law_one"]) (sc := defScope sMsg) (by decide +kernel))
          (fun _ _ _ _ _ => pg_name (i := 1) scMsg.nd rfl (Or.inl rfl)) (fun _ _ _ _ _ => pts_one (pt_val (pv 1))) (fun _ _ _ _ _ => pe_int)) (pe_lst pa_nil) (nomark _))))), ?_⟩
    refine ⟨.ref a, rfl, a, D, .ref CL, _, true, rfl, he, hc.er, fun u r => r, hc.l, true, rfl, iteF ?_⟩
    refine ⟨.ref a, rfl, a, D, .ty "ValueError", _, true, rfl, he, hc.er, fun u r => r, hc.v, true, rfl, iteF ?_⟩
    refine ⟨.ref a, rfl, a, D, .ty "IndexError", _, false, rfl, he, hc.er, fun u r => r, hc.i, .ref a, rfl, a, D, .ty "LookupError", _, false, rfl, he, hc.er, fun u r => r, hc.k, (by show 2 ≤ sizeLine; decide), fun t nt => ?_⟩
    have st := Same.new (o := .tup [V.bl false, .bl false]) nt
    have lt : (upd H t (.tup [V.bl false, .bl false])) t = some (.tup [V.bl false, .bl false]) := upd_same
    generalize upd H t (.tup [V.bl false, .bl false]) = G at st lt ⊢
    refine ⟨t, rfl, ⟨_, SqT.of lt⟩, fun D0 nD => lcT [none, none] rfl (by simp) (SqT.of lt) nD ?_ ?_⟩
    · intro i x H2 Q2 Z2 hx sm hQ hZ
      refine ⟨rfl, ?_⟩
      match i, hx with
      | 0, hx =>
        cases hx
        exact ⟨_, rfl, false, rfl, iteF (hZ _ rfl (Same.refl _))⟩
      | 1, hx =>
        cases hx
        exact ⟨_, rfl, false, rfl, iteF (hZ _ rfl (Same.refl _))⟩
      | i + 2, hx => exact absurd hx (by simp)
    · intro H2 sm hl2
      refine ⟨Nat.zero_le _, fun u nu => ?_⟩
      have su := Same.new (o := .lst []) nu
      exact ⟨D0, u, [], rfl, rfl, SqL.of (su _ _ hl2), SqL.of upd_same, q _ (st.trans (sm.trans su))⟩
end
end Sl

set_option Elab.async false
set_option linter.all false
set_option maxRecDepth 100000
set_option maxHeartbeats 400000
namespace Sl
open PySem PySem.Spec PyProof.Rows L2
/-- the nine classes of errors with messages, in the law's order -/
structure Nine (mg : Str → Option Value) (c : Nat → Addr) : Prop where
  g0 : mg "InvalidName" = some (.ref (c 0))
  g1 : mg "InvalidTerm" = some (.ref (c 1))
  g2 : mg "InvalidGraph" = some (.ref (c 2))
  g3 : mg "InvalidFamily" = some (.ref (c 3))
  g4 : mg "InvalidAddress" = some (.ref (c 4))
  g5 : mg "InvalidOperation" = some (.ref (c 5))
  g6 : mg "InvalidEdit" = some (.ref (c 6))
  g7 : mg "ParseError" = some (.ref (c 7))
  g8 : mg "InvalidCommand" = some (.ref (c 8))
section
variable {P : Program} {w : World} {K : PySem.W.Frag} {mg : Str → Option Value} {base : Heap} {CL : Addr} {c : Nat → Addr}
def spKinds (K : PySem.W.Frag) (c : Nat → Addr) : Sp := fun vs H Q _ => ∃ (a D : Addr) (b : Nat → Bool), vs = [.ref a] ∧ IsE H a D ∧ ErC K D ∧ (∀ i, i < 9 → PySem.W.kitOne K (.ref D) (.ref (c i)) = some (b i)) ∧
  ∀ p H', Same H H' → H' p = some (.lst [.bl (b 0), .bl (b 1), .bl (b 2), .bl (b 3), .bl (b 4), .bl (b 5), .bl (b 6), .bl (b 7), .bl (b 8)]) → Q (.ref p) H'
theorem ok_kinds {f : Addr} {fd : FuncData} (F : Fun K "_law_kinds" "_law_kinds" sKinds f fd) (N : Nine mg c) (B : Bz mg) : FnOk P w K mg base CX0 1 f fd ["_law_error"] (spKinds K c) := by
  refine F.ok scKinds (fun vs H Q E h => ?_) (fun cdv A outer s H vs Q E hr h => ?_)
  · obtain ⟨a, D, b, rfl, _⟩ := h
    rfl
  · obtain ⟨a, D, b, rfl, he, er, hb, q⟩ := h
    refine ⟨_, (pss_cons (ps_set (i := 1) scKinds.nd rfl (Or.inl rfl) (pe_lst (pa_cons (pe_callB call_isX (by rfl) B.isi (by decide +kernel) (pa_cons (pv 0) (pa_cons (pe_glob (v := .ref (c 0)) (by rfl) N.g0 rfl) pa_nil))) (pa_cons (pe_callB call_isX (by rfl) B.isi (by decide +kernel) (pa_cons (pv 0) (pa_cons (pe_glob (v := .ref (c 1)) (by rfl) N.g1 rfl) pa_nil))) (pa_cons (pe_callB call_isX (by rfl) B.isi (by decide +kernel) (pa_cons (pv 0) (pa_cons (pe_glob (v := .ref (c 2)) (by rfl) N.g2 rfl) pa_nil))) pa_nil)))))
      (pss_cons (ps_set (i := 1) scKinds.nd rfl (Or.inl rfl) (pe_op op_cat (pv 1) (pe_lst (pa_cons (pe_callB call_isX (by rfl) B.isi (by decide +kernel) (pa_cons (pv 0) (pa_cons (pe_glob (v := .ref (c 3)) (by rfl) N.g3 rfl) pa_nil))) (pa_cons (pe_callB call_isX (by rfl) B.isi (by decide +kernel) (pa_cons (pv 0) (pa_cons (pe_glob (v := .ref (c 4)) (by rfl) N.g4 rfl) pa_nil))) pa_nil)))))
      (pss_cons (ps_set (i := 1) scKinds.nd rfl (Or.inl rfl) (pe_op op_cat (pv 1) (pe_lst (pa_cons (pe_callB call_isX (by rfl) B.isi (by decide +kernel) (pa_cons (pv 0) (pa_cons (pe_glob (v := .ref (c 5)) (by rfl) N.g5 rfl) pa_nil))) (pa_cons (pe_callB call_isX (by rfl) B.isi (by decide +kernel) (pa_cons (pv 0) (pa_cons (pe_glob (v := .ref (c 6)) (by rfl) N.g6 rfl) pa_nil))) (pa_cons (pe_callB call_isX (by rfl) B.isi (by decide +kernel) (pa_cons (pv 0) (pa_cons (pe_glob (v := .ref (c 7)) (by rfl) N.g7 rfl) pa_nil))) pa_nil))))))
      (pss_one (ps_ret (pe_op op_cat (pv 1) (pe_lst (pa_cons (pe_callB call_isX (by rfl) B.isi (by decide +kernel) (pa_cons (pv 0) (pa_cons (pe_glob (v := .ref (c 8)) (by rfl) N.g8 rfl) pa_nil))) pa_nil)))))))), ?_⟩
    have z3 : 3 ≤ sizeLine := by decide
    refine ⟨.ref a, rfl, ⟨a, D, .ref (c 0), _, b 0, rfl, he.same (Same.refl _), er, fun u r => r, hb 0 (by decide), .ref a, rfl, ⟨a, D, .ref (c 1), _, b 1, rfl, he.same (Same.refl _), er, fun u r => r, hb 1 (by decide), .ref a, rfl, ⟨a, D, .ref (c 2), _, b 2, rfl, he.same (Same.refl _), er, fun u r => r, hb 2 (by decide), z3, fun p1 n1 => ?_⟩⟩⟩⟩
    have s1 := Same.new (o := .lst [V.bl (b 0), .bl (b 1), .bl (b 2)]) n1
    have l1 : (upd H p1 (.lst [V.bl (b 0), .bl (b 1), .bl (b 2)])) p1 = some (.lst [.bl (b 0), .bl (b 1), .bl (b 2)]) := upd_same
    generalize (upd H p1 (.lst [V.bl (b 0), .bl (b 1), .bl (b 2)])) = H1 at s1 l1 ⊢
    refine ⟨.ref p1, rfl, .ref a, rfl, ⟨a, D, .ref (c 3), _, b 3, rfl, he.same s1, er, fun u r => r, hb 3 (by decide), .ref a, rfl, ⟨a, D, .ref (c 4), _, b 4, rfl, he.same s1, er, fun u r => r, hb 4 (by decide), (by show 2 ≤ sizeLine; decide), fun p2 n2 => ?_⟩⟩⟩
    have s2 := Same.new (o := .lst [V.bl (b 3), .bl (b 4)]) n2
    have l2 : (upd H1 p2 (.lst [V.bl (b 3), .bl (b 4)])) p2 = some (.lst [.bl (b 3), .bl (b 4)]) := upd_same
    generalize (upd H1 p2 (.lst [V.bl (b 3), .bl (b 4)])) = H2 at s2 l2 ⊢
    refine ⟨p1, p2, _, _, rfl, rfl, s2 _ _ l1, l2, (by show 3 + 2 ≤ sizeLine; decide), fun p3 n3 => ?_⟩
    have s3 := Same.new (o := .lst ([V.bl (b 0), .bl (b 1), .bl (b 2)] ++ [V.bl (b 3), .bl (b 4)])) n3
    have l3 : (upd H2 p3 (.lst ([V.bl (b 0), .bl (b 1), .bl (b 2)] ++ [V.bl (b 3), .bl (b 4)]))) p3 = some (.lst [V.bl (b 0), .bl (b 1), .bl (b 2), .bl (b 3), .bl (b 4)]) := upd_same
    generalize (upd H2 p3 (.lst ([V.bl (b 0), .bl (b 1), .bl (b 2)] ++ [V.bl (b 3), .bl (b 4)]))) = H3 at s3 l3 ⊢
    have t3 := (s1.trans s2).trans s3
    refine ⟨.ref p3, rfl, .ref a, rfl, ⟨a, D, .ref (c 5), _, b 5, rfl, he.same t3, er, fun u r => r, hb 5 (by decide), .ref a, rfl, ⟨a, D, .ref (c 6), _, b 6, rfl, he.same t3, er, fun u r => r, hb 6 (by decide), .ref a, rfl, ⟨a, D, .ref (c 7), _, b 7, rfl, he.same t3, er, fun u r => r, hb 7 (by decide), z3, fun p4 n4 => ?_⟩⟩⟩⟩
    have s4 := Same.new (o := .lst [V.bl (b 5), .bl (b 6), .bl (b 7)]) n4
    have l4 : (upd H3 p4 (.lst [V.bl (b 5), .bl (b 6), .bl (b 7)])) p4 = some (.lst [.bl (b 5), .bl (b 6), .bl (b 7)]) := upd_same
    generalize (upd H3 p4 (.lst [V.bl (b 5), .bl (b 6), .bl (b 7)])) = H4 at s4 l4 ⊢
    refine ⟨p3, p4, _, _, rfl, rfl, s4 _ _ l3, l4, (by show 5 + 3 ≤ sizeLine; decide), fun p5 n5 => ?_⟩
    have s5 := Same.new (o := .lst ([V.bl (b 0), .bl (b 1), .bl (b 2), .bl (b 3), .bl (b 4)] ++ [V.bl (b 5), .bl (b 6), .bl (b 7)])) n5
    have l5 : (upd H4 p5 (.lst ([V.bl (b 0), .bl (b 1), .bl (b 2), .bl (b 3), .bl (b 4)] ++ [V.bl (b 5), .bl (b 6), .bl (b 7)]))) p5 = some (.lst [V.bl (b 0), .bl (b 1), .bl (b 2), .bl (b 3), .bl (b 4), .bl (b 5), .bl (b 6), .bl (b 7)]) := upd_same
    generalize (upd H4 p5 (.lst ([V.bl (b 0), .bl (b 1), .bl (b 2), .bl (b 3), .bl (b 4)] ++ [V.bl (b 5), .bl (b 6), .bl (b 7)]))) = H5 at s5 l5 ⊢
    have t5 := (t3.trans s4).trans s5
    refine ⟨.ref p5, rfl, .ref a, rfl, ⟨a, D, .ref (c 8), _, b 8, rfl, he.same t5, er, fun u r => r, hb 8 (by decide), (by show 1 ≤ sizeLine; decide), fun p6 n6 => ?_⟩⟩
    have s6 := Same.new (o := .lst [V.bl (b 8)]) n6
    have l6 : (upd H5 p6 (.lst [V.bl (b 8)])) p6 = some (.lst [.bl (b 8)]) := upd_same
    generalize (upd H5 p6 (.lst [V.bl (b 8)])) = H6 at s6 l6 ⊢
    refine ⟨p5, p6, _, _, rfl, rfl, s6 _ _ l5, l6, (by show 8 + 1 ≤ sizeLine; decide), fun p7 n7 => ?_⟩
    exact q p7 _ ((t5.trans s6).trans (Same.new n7)) upd_same
end
end Sl

set_option Elab.async false
set_option linter.all false
set_option maxRecDepth 100000
set_option maxHeartbeats 400000
namespace Sl
open PySem PySem.Spec PyProof.Rows L2
theorem sql_same {K : PySem.W.Frag} {G G' : Hp} {a : Addr} {xs : List V} (s : Same G G') (h : SqL K G a xs) : SqL K G' a xs := by
  rcases h with (h | ⟨ob, h⟩) | h
  · exact .inl (.inl (s _ _ h))
  · exact .inl (.inr ⟨ob, s _ _ h⟩)
  · exact .inr h
mutual
theorem dp_same {K : PySem.W.Frag} {G G' : Hp} (s : Same G G') : ∀ (d : PyData) {v : V}, Dp K G v d → Dp K G' v d
  | .none, _, h => by cases h; exact .non
  | .bool b, _, h => by cases h; exact .bl b
  | .int i, _, h => by cases h; exact .int i
  | .str x, _, h => by cases h; exact .str x
  | .list ds, _, h => by
    cases h with
    | lst h1 h2 => exact .lst (sql_same s h1) (dps_same s ds h2)
  | .tuple ds, _, h => by
    cases h with
    | tup h1 h2 => exact .tup ((Ex.same s).tup h1) (dps_same s ds h2)
  | .dict _, _, h => by cases h
theorem dps_same {K : PySem.W.Frag} {G G' : Hp} (s : Same G G') : ∀ (ds : List PyData) {vs : List V}, DpAll K G vs ds → DpAll K G' vs ds
  | [], _, h => by cases h; exact .nil
  | d :: ds, _, h => by
    cases h with
    | cons h1 h2 => exact .cons (dp_same s d h1) (dps_same s ds h2)
end
theorem Sw.same {K : PySem.W.Frag} {G G' : Hp} {v : V} {d : PyData} (s : Same G G') (h : Sw K G v d) : Sw K G' v d := by
  cases h with
  | dp h => exact .dp (dp_same s d h)
  | d0 e => exact .d0 (s _ _ e)
  | d1 e => exact .d1 (s _ _ e)
/-- what a made exception leaves -/
def Mk (G G' : Hp) (a C : Addr) (f : Str) (v : V) : Prop := Same G G' ∧ ∃ d, G' a = some (EO C (some d) a) ∧ G' d = some (.xd [(f, v)])
theorem made {G : Hp} {a d C : Addr} {f : Str} {v : V} (na : G a = none) (nd : G d = none) (ne : a ≠ d) : Mk G (upd (upd G d (.xd [(f, v)])) a (EO C (some d) a)) a C f v := by
  refine ⟨fun b o e => ?_, d, upd_same, ?_⟩
  · rw [upd_ne (ne_of_none e na), upd_ne (ne_of_none e nd)]
    exact e
  · rw [upd_ne (Ne.symm ne)]
    exact upd_same
theorem Mk.on {G G' G2 : Hp} {a C : Addr} {f : Str} {v : V} (m : Mk G G' a C f v) (s : Same G' G2) : ∃ d, G2 a = some (EO C (some d) a) ∧ G2 d = some (.xd [(f, v)]) := by
  obtain ⟨_, d, h1, h2⟩ := m
  exact ⟨d, s _ _ h1, s _ _ h2⟩
theorem Mk.is {G G' G2 : Hp} {a C : Addr} {f : Str} {v : V} (m : Mk G G' a C f v) (s : Same G' G2) : IsE G2 a C := by
  obtain ⟨d, h1, h2⟩ := m.on s
  exact .inr ⟨d, _, h1, h2⟩
abbrev sVal : Stmt := topZ 19
theorem scVal : FnScope ["_law_thing", "_law_one", "_law_two", "_law_three", "_law_four", "_law_five", "_law_told", "_law_unlike", "_law_error"] ["_law_thing"] (defScope sVal) := ⟨rfl, rfl, rfl, by decide +kernel, rfl, by decide +kernel, by decide +kernel⟩
/-- a class of an error with a value -/
structure ValC (K : PySem.W.Frag) (CL D : Addr) (f : Str) : Prop where
  er : ErC K D
  hd : PySem.W.hasDictIn K D = true
  no : PySem.W.findIn K (.ref D) f = some none
  l : PySem.W.kitOne K (.ref D) (.ref CL) = some false
section
variable {P : Program} {w : World} {K : PySem.W.Frag} {mg : Str → Option Value} {base : Heap} {CL : Addr} {cI cU cT cC cN fI fU fT fC fN : Addr}
structure Five (K : PySem.W.Frag) (mg : Str → Option Value) (CL cI cU cT cC cN fI fU fT fC fN : Addr) : Prop where
  mI : PySem.InX.InTxt K mg cI fI
  mU : PySem.UnX.UnTxt K mg cU fU
  mT : PySem.TmX.TmTxt K mg cT fT
  mC : PySem.ChX.ChTxt K mg cC fC
  mN : PySem.NuX.NuTxt K mg cN fN
  vI : ValC K CL cI "value"
  vU : ValC K CL cU "name"
  vT : ValC K CL cT "limit"
  vC : ValC K CL cC "chain"
  vN : ValC K CL cN "many"
  kI : PySem.W.kitOne K (.ref cI) (.type "IndexError") = some true
  kU : PySem.W.kitOne K (.ref cU) (.type "KeyError") = some true
  kT : PySem.W.kitOne K (.ref cT) (.type "OverflowError") = some true
  kC : PySem.W.kitOne K (.ref cC) (.type "RuntimeError") = some true
  kN : PySem.W.kitOne K (.ref cN) (.type "LookupError") = some true
  iI : PySem.W.kitOne K (.ref cI) (.ref cI) = some true
  iU : PySem.W.kitOne K (.ref cU) (.ref cI) = some false
  iN : PySem.W.kitOne K (.ref cN) (.ref cI) = some false
  gL : mg "LetError" = some (.ref CL)
def spVal (K : PySem.W.Frag) : Sp := fun vs H Q _ => ∃ v d, vs = [v] ∧ Sw K H v d ∧ PyData.showableAll (List.replicate 5 d) = true ∧ PyData.depthAll (List.replicate 5 d) ≤ 40 ∧ (listText (PyData.shownAll (List.replicate 5 d))).length ≤ sizeLine ∧ ∀ H', Same H H' → Q (.bl true) H'
theorem ok_val {f : Addr} {fd : FuncData} (F : Fun K "_law_valued_right" "_law_valued_right" sVal f fd) (T : Five K mg CL cI cU cT cC cN fI fU fT fC fN) (B : Bz mg) : FnG P w K mg base (L2.CX P w) 4 f fd ["_law_thing"] (spVal K) := by
  refine okG F scVal (fun vs H Q E h => ?_) (fun cdv A outer s H vs Q E hG hr h => ?_)
  · obtain ⟨a, d, rfl, _⟩ := h
    rfl
  · obtain ⟨v, d, rfl, hv, sh, dep, siz, q⟩ := h
    refine ⟨_, PSs.nox (pss_cons (ps_par3 (i := 1) (j := 2) (l := 3) (by rfl) scVal.nd rfl rfl rfl (by decide) (by decide) (by decide) rfl rfl rfl (pa_cons (pe_inV T.mI hr (pa_cons (pv 0) pa_nil)) (pa_cons (pe_unV T.mU hr (pa_cons (pv 0) pa_nil)) (pa_cons (pe_tmV T.mT hr (pa_cons (pv 0) pa_nil)) pa_nil))) (by rfl))
      (pss_cons (ps_par (i := 4) (j := 5) (by rfl) scVal.nd rfl rfl (by decide) rfl rfl (pa_cons (pe_chV T.mC hr (pa_cons (pv 0) pa_nil)) (pa_cons (pe_nuV T.mN hr (pa_cons (pv 0) pa_nil)) pa_nil)) (by rfl))
      (pss_cons (ps_if (pt_cmpR op_ne (pe_callB (call_reprL hG hr) (by rfl) B.rp (by decide +kernel) (pa_cons (pe_lst (pa_cons (pe_getX (pv 1)) (pa_cons (pe_getX (pv 2)) (pa_cons (pe_getX (pv 3)) (pa_cons (pe_getX (pv 4)) (pa_cons (pe_getX (pv 5)) pa_nil)))))) pa_nil)) (pe_callB (call_reprL hG hr) (by rfl) B.rp (by decide +kernel) (pa_cons (pe_op op_rep (pe_lst (pa_cons (pv 0) pa_nil)) pe_int) pa_nil)) (nomark _))
        (pss_one (ps_ret pe_bl))
        pss_nil)
      (pss_cons (ps_if (pt_cmpR (op_neD hr.units) (pe_lc (own := [("_law_error", 8)]) (g := gName 8) (tt := tB (tCB (rIsX K) (tCons (tVar 8) (tCons (tC (.ref CL)) tNil)))) rfl scVal.nd (pi_tup (pe_tup (pa_cons (pv 1) (pa_cons (pv 2) (pa_cons (pv 3) (pa_cons (pv 4) (pa_cons (pv 5) pa_nil)))))))
          (blkOk_by (own := [("_law_error", 8)]) (N := ["_law_thing", "_law_one", "_law_two", "_law_three", "_law_four", "_law_five", "_law_told", "_law_unlike", "_law_error"]) (sc := defScope sVal) (by decide +kernel))
          (fun _ _ _ _ _ => pg_name (i := 8) scVal.nd rfl (Or.inl rfl)) (fun _ _ _ _ _ => pts_one (pt_val (by exact (pe_callB call_isX (by rfl) B.isi (by decide +kernel) (pa_cons (pv 8) (pa_cons (pe_glob (v := .ref CL) (by rfl) T.gL rfl) pa_nil)))))) (fun _ _ _ _ _ => pe_int)) (pe_lst pa_nil) (nomark _))
        (pss_one (ps_ret pe_bl))
        pss_nil)
      (pss_cons (ps_set (i := 6) scVal.nd rfl (Or.inl rfl) (pe_lst (pa_cons (pe_callB call_isX (by rfl) B.isi (by decide +kernel) (pa_cons (pv 1) (pa_cons (pe_bltn (v := .ty "IndexError") (by rfl) B.ie (by decide +kernel) rfl) pa_nil))) (pa_cons (pe_callB call_isX (by rfl) B.isi (by decide +kernel) (pa_cons (pv 2) (pa_cons (pe_bltn (v := .ty "KeyError") (by rfl) B.ke (by decide +kernel) rfl) pa_nil))) (pa_cons (pe_callB call_isX (by rfl) B.isi (by decide +kernel) (pa_cons (pv 3) (pa_cons (pe_bltn (v := .ty "OverflowError") (by rfl) B.oe (by decide +kernel) rfl) pa_nil))) pa_nil)))))
      (pss_cons (ps_set (i := 6) scVal.nd rfl (Or.inl rfl) (pe_op op_cat (pv 6) (pe_lst (pa_cons (pe_callB call_isX (by rfl) B.isi (by decide +kernel) (pa_cons (pv 4) (pa_cons (pe_bltn (v := .ty "RuntimeError") (by rfl) B.re (by decide +kernel) rfl) pa_nil))) (pa_cons (pe_callB call_isX (by rfl) B.isi (by decide +kernel) (pa_cons (pv 5) (pa_cons (pe_bltn (v := .ty "LookupError") (by rfl) B.le (by decide +kernel) rfl) pa_nil))) pa_nil)))))
      (pss_cons (ps_set (i := 7) scVal.nd rfl (Or.inl rfl) (pe_lst (pa_cons (pe_callB call_isX (by rfl) B.isi (by decide +kernel) (pa_cons (pv 1) (pa_cons (pe_glob (v := .ref cI) (by rfl) T.mI.gC rfl) pa_nil))) (pa_cons (pe_callB call_isX (by rfl) B.isi (by decide +kernel) (pa_cons (pv 2) (pa_cons (pe_glob (v := .ref cI) (by rfl) T.mI.gC rfl) pa_nil))) (pa_cons (pe_callB call_isX (by rfl) B.isi (by decide +kernel) (pa_cons (pv 5) (pa_cons (pe_glob (v := .ref cI) (by rfl) T.mI.gC rfl) pa_nil))) pa_nil)))))
      (pss_one (ps_ret (pe_and (pe_cmpR (op_eqD hr.units) (pv 6) (pe_op op_rep (pe_lst (pa_cons pe_bl pa_nil)) pe_int) (nomark _)) (pe_one (pe_cmpR (op_eqD hr.units) (pv 7) (pe_lst (pa_cons pe_bl (pa_cons pe_bl (pa_cons pe_bl pa_nil)))) (nomark _))))))))))))), ?_⟩
    refine ⟨v, rfl, v, rfl, fun a1 d1 na1 nd1 ne1 => ?_⟩
    have m1 := made (C := cI) (f := "value") (v := v) na1 nd1 ne1
    generalize upd (upd H d1 (.xd [("value", v)])) a1 (EO cI (some d1) a1) = G1 at m1 ⊢
    refine ⟨v, rfl, v, rfl, fun a2 d2 na2 nd2 ne2 => ?_⟩
    have m2 := made (C := cU) (f := "name") (v := v) na2 nd2 ne2
    generalize upd (upd G1 d2 (.xd [("name", v)])) a2 (EO cU (some d2) a2) = G2 at m2 ⊢
    refine ⟨v, rfl, v, rfl, fun a3 d3 na3 nd3 ne3 => ?_⟩
    have m3 := made (C := cT) (f := "limit") (v := v) na3 nd3 ne3
    generalize upd (upd G2 d3 (.xd [("limit", v)])) a3 (EO cT (some d3) a3) = G3 at m3 ⊢
    refine ⟨_, _, _, rfl, ?_⟩
    refine ⟨v, rfl, v, rfl, fun a4 d4 na4 nd4 ne4 => ?_⟩
    have m4 := made (C := cC) (f := "chain") (v := v) na4 nd4 ne4
    generalize upd (upd G3 d4 (.xd [("chain", v)])) a4 (EO cC (some d4) a4) = G4 at m4 ⊢
    refine ⟨v, rfl, v, rfl, fun a5 d5 na5 nd5 ne5 => ?_⟩
    have m5 := made (C := cN) (f := "many") (v := v) na5 nd5 ne5
    generalize upd (upd G4 d5 (.xd [("many", v)])) a5 (EO cN (some d5) a5) = G5 at m5 ⊢
    refine ⟨_, _, rfl, ?_⟩
    have s1 := m1.1
    have s2 := m2.1
    have s3 := m3.1
    have s4 := m4.1
    have s5 := m5.1
    have t4 := s5
    have t3 := s4.trans t4
    have t2 := s3.trans t3
    have t1 := s2.trans t2
    have t0 := s1.trans t1
    obtain ⟨e1, x1, y1⟩ := m1.on t1
    obtain ⟨e2, x2, y2⟩ := m2.on t2
    obtain ⟨e3, x3, y3⟩ := m3.on t3
    obtain ⟨e4, x4, y4⟩ := m4.on t4
    obtain ⟨e5, x5, y5⟩ := m5.on (Same.refl _)
    -- the two texts
    refine ⟨.ref a1, rfl, a1, cI, e1, _, v, rfl, x1, y1, T.vI.er, T.vI.hd, T.vI.no, rfl, .ref a2, rfl, a2, cU, e2, _, v, rfl, x2, y2, T.vU.er, T.vU.hd, T.vU.no, rfl, .ref a3, rfl, a3, cT, e3, _, v, rfl, x3, y3, T.vT.er, T.vT.hd, T.vT.no, rfl,
      .ref a4, rfl, a4, cC, e4, _, v, rfl, x4, y4, T.vC.er, T.vC.hd, T.vC.no, rfl, .ref a5, rfl, a5, cN, e5, _, v, rfl, x5, y5, T.vN.er, T.vN.hd, T.vN.no, rfl, (by show 5 ≤ sizeLine; decide), fun p1 n1 => ?_⟩
    have u1 := Same.new (o := .lst [v, v, v, v, v]) n1
    have l1 : (upd G5 p1 (.lst [v, v, v, v, v])) p1 = some (.lst [v, v, v, v, v]) := upd_same
    generalize upd G5 p1 (.lst [v, v, v, v, v]) = G6 at u1 l1 ⊢
    have five : ∀ {G : Hp}, Same H G → ∀ x ∈ [v, v, v, v, v], Sw K G x d := fun sg x hx => by
      have e : x = v := by simpa using hx
      rw [e]
      exact hv.same sg
    refine ⟨p1, v, [v, v, v, v], d, rfl, l1, five (t0.trans u1), sh, dep, siz, ?_⟩
    refine ⟨v, rfl, (by show 1 ≤ sizeLine; decide), fun p2 n2 => ?_⟩
    have u2 := Same.new (o := .lst [v]) n2
    have l2 : (upd G6 p2 (.lst [v])) p2 = some (.lst [v]) := upd_same
    generalize upd G6 p2 (.lst [v]) = G7 at u2 l2 ⊢
    refine ⟨p2, 5, [v], rfl, rfl, l2, by decide, by decide, (by show 1 * 5 ≤ sizeLine; decide), fun p3 n3 => ?_⟩
    have u3 := Same.new (o := .lst (List.replicate (5 : Int).toNat [v]).flatten) n3
    have l3 : (upd G7 p3 (.lst (List.replicate (5 : Int).toNat [v]).flatten)) p3 = some (.lst [v, v, v, v, v]) := upd_same
    generalize upd G7 p3 (.lst (List.replicate (5 : Int).toNat [v]).flatten) = G8 at u3 l3 ⊢
    have r8 := (u1.trans u2).trans u3
    refine ⟨p3, v, [v, v, v, v], d, rfl, l3, five (t0.trans r8), sh, dep, siz, ⟨rfl, _, rfl, iteNS rfl ?_⟩⟩
    have i1 := m1.is (t1.trans r8)
    have i2 := m2.is (t2.trans r8)
    have i3 := m3.is (t3.trans r8)
    have i4 := m4.is (t4.trans r8)
    have i5 := m5.is r8
    have q8 := t0.trans r8
    clear u1 u2 u3 r8 l1 l2 l3 five x1 x2 x3 x4 x5 y1 y2 y3 y4 y5 m1 m2 m3 m4 m5 t0 t1 t2 t3 t4 s1 s2 s3 s4 s5
    -- none of them is a LetError
    refine ⟨.ref a1, rfl, .ref a2, rfl, .ref a3, rfl, .ref a4, rfl, .ref a5, rfl, (by show 5 ≤ sizeLine; decide), fun t nt => ?_⟩
    have st := Same.new (o := .tup [V.ref a1, .ref a2, .ref a3, .ref a4, .ref a5]) nt
    have lt : (upd G8 t (.tup [V.ref a1, .ref a2, .ref a3, .ref a4, .ref a5])) t = some (.tup [V.ref a1, .ref a2, .ref a3, .ref a4, .ref a5]) := upd_same
    generalize upd G8 t (.tup [V.ref a1, .ref a2, .ref a3, .ref a4, .ref a5]) = G9 at st lt ⊢
    refine ⟨t, rfl, ⟨_, SqT.of lt⟩, fun D0 nD => lcT [none, none, none, none, none] rfl (by simp) (SqT.of lt) nD ?_ ?_⟩
    · intro i x H2 Q2 Z2 hx sm hQ hZ
      refine ⟨rfl, ?_⟩
      have w : ∃ a D, x = V.ref a ∧ IsE H2 a D ∧ ErC K D ∧ PySem.W.kitOne K (.ref D) (.ref CL) = some false ∧ ([none, none, none, none, none] : List (Option V))[i]? = some none := by
        match i, hx with
        | 0, hx => cases hx; exact ⟨a1, cI, rfl, i1.same (st.trans sm), T.vI.er, T.vI.l, rfl⟩
        | 1, hx => cases hx; exact ⟨a2, cU, rfl, i2.same (st.trans sm), T.vU.er, T.vU.l, rfl⟩
        | 2, hx => cases hx; exact ⟨a3, cT, rfl, i3.same (st.trans sm), T.vT.er, T.vT.l, rfl⟩
        | 3, hx => cases hx; exact ⟨a4, cC, rfl, i4.same (st.trans sm), T.vC.er, T.vC.l, rfl⟩
        | 4, hx => cases hx; exact ⟨a5, cN, rfl, i5.same (st.trans sm), T.vN.er, T.vN.l, rfl⟩
        | i + 5, hx => exact absurd hx (by simp)
      obtain ⟨a, D, rfl, he, er, kk, hy⟩ := w
      exact ⟨.ref a, rfl, a, D, .ref CL, _, false, rfl, he, er, fun u r => r, kk, false, rfl, iteF (hZ _ hy (Same.refl _))⟩
    · intro H2 sm hl2
      refine ⟨Nat.zero_le _, fun u nu => ?_⟩
      have su := Same.new (o := .lst []) nu
      have lu : (upd H2 u (.lst [])) u = some (.lst []) := upd_same
      generalize upd H2 u (.lst []) = G10 at su lu ⊢
      refine rNe_lst (ds := []) (su _ _ hl2) lu .nil .nil (by decide) (by decide) ⟨_, rfl, iteF ?_⟩
      have r10 := (st.trans sm).trans su
      have i1 := i1.same r10
      have i2 := i2.same r10
      have i3 := i3.same r10
      have i4 := i4.same r10
      have i5 := i5.same r10
      have q10 := q8.trans r10
      refine ⟨.ref a1, rfl, a1, cI, .ty "IndexError", _, true, rfl, i1, T.vI.er, fun u r => r, T.kI, .ref a2, rfl, a2, cU, .ty "KeyError", _, true, rfl, i2, T.vU.er, fun u r => r, T.kU, .ref a3, rfl, a3, cT, .ty "OverflowError", _, true, rfl, i3, T.vT.er, fun u r => r, T.kT, (by show 3 ≤ sizeLine; decide), fun p4 n4 => ?_⟩
      have w4 := Same.new (o := .lst [V.bl true, .bl true, .bl true]) n4
      have l4 : (upd G10 p4 (.lst [V.bl true, .bl true, .bl true])) p4 = some (.lst [.bl true, .bl true, .bl true]) := upd_same
      generalize upd G10 p4 (.lst [V.bl true, .bl true, .bl true]) = G11 at w4 l4 ⊢
      refine ⟨.ref p4, rfl, .ref a4, rfl, a4, cC, .ty "RuntimeError", _, true, rfl, i4.same w4, T.vC.er, fun u r => r, T.kC, .ref a5, rfl, a5, cN, .ty "LookupError", _, true, rfl, i5.same w4, T.vN.er, fun u r => r, T.kN, (by show 2 ≤ sizeLine; decide), fun p5 n5 => ?_⟩
      have w5 := Same.new (o := .lst [V.bl true, .bl true]) n5
      have l5 : (upd G11 p5 (.lst [V.bl true, .bl true])) p5 = some (.lst [.bl true, .bl true]) := upd_same
      generalize upd G11 p5 (.lst [V.bl true, .bl true]) = G12 at w5 l5 ⊢
      refine ⟨p4, p5, _, _, rfl, rfl, w5 _ _ l4, l5, (by show 3 + 2 ≤ sizeLine; decide), fun p6 n6 => ?_⟩
      have w6 := Same.new (o := .lst ([V.bl true, .bl true, .bl true] ++ [V.bl true, .bl true])) n6
      have l6 : (upd G12 p6 (.lst ([V.bl true, .bl true, .bl true] ++ [V.bl true, .bl true]))) p6 = some (.lst [V.bl true, .bl true, .bl true, .bl true, .bl true]) := upd_same
      generalize upd G12 p6 (.lst ([V.bl true, .bl true, .bl true] ++ [V.bl true, .bl true])) = G13 at w6 l6 ⊢
      have w13 := (w4.trans w5).trans w6
      refine ⟨.ref a1, rfl, a1, cI, .ref cI, _, true, rfl, i1.same w13, T.vI.er, fun u r => r, T.iI, .ref a2, rfl, a2, cU, .ref cI, _, false, rfl, i2.same w13, T.vU.er, fun u r => r, T.iU, .ref a5, rfl, a5, cN, .ref cI, _, false, rfl, i5.same w13, T.vN.er, fun u r => r, T.iN, (by show 3 ≤ sizeLine; decide), fun p7 n7 => ?_⟩
      have w7 := Same.new (o := .lst [V.bl true, .bl false, .bl false]) n7
      have l7 : (upd G13 p7 (.lst [V.bl true, .bl false, .bl false])) p7 = some (.lst [V.bl true, .bl false, .bl false]) := upd_same
      generalize upd G13 p7 (.lst [V.bl true, .bl false, .bl false]) = G14 at w7 l7 ⊢
      refine ⟨.ref p6, rfl, (by show 1 ≤ sizeLine; decide), fun p8 n8 => ?_⟩
      have w8 := Same.new (o := .lst [V.bl true]) n8
      have l8 : (upd G14 p8 (.lst [V.bl true])) p8 = some (.lst [V.bl true]) := upd_same
      generalize upd G14 p8 (.lst [V.bl true]) = G15 at w8 l8 ⊢
      refine ⟨p8, 5, [.bl true], rfl, rfl, l8, by decide, by decide, (by show 1 * 5 ≤ sizeLine; decide), fun p9 n9 => ?_⟩
      have w9 := Same.new (o := .lst (List.replicate (5 : Int).toNat [V.bl true]).flatten) n9
      have l9 : (upd G15 p9 (.lst (List.replicate (5 : Int).toNat [V.bl true]).flatten)) p9 = some (.lst [V.bl true, .bl true, .bl true, .bl true, .bl true]) := upd_same
      generalize upd G15 p9 (.lst (List.replicate (5 : Int).toNat [V.bl true]).flatten) = G16 at w9 l9 ⊢
      have bb : ∀ {G : Hp} (b : Bool), Rdd K G (.bl b) (.bl b) := fun b => .bl b
      refine rEq_lst (ds := [.bl true, .bl true, .bl true, .bl true, .bl true]) (w9 _ _ (w8 _ _ (w7 _ _ l6))) l9 (.cons (bb _) (.cons (bb _) (.cons (bb _) (.cons (bb _) (.cons (bb _) .nil))))) (.cons (bb _) (.cons (bb _) (.cons (bb _) (.cons (bb _) (.cons (bb _) .nil))))) (by decide) (by decide) ⟨_, rfl, ?_⟩
      refine iteT ⟨.ref p7, rfl, (by show 3 ≤ sizeLine; decide), fun p10 n10 => ?_⟩
      have w10 := Same.new (o := .lst [V.bl true, .bl false, .bl false]) n10
      exact rEq_lst (ds := [.bl true, .bl false, .bl false]) (w10 _ _ (w9 _ _ (w8 _ _ l7))) upd_same (.cons (bb _) (.cons (bb _) (.cons (bb _) .nil))) (.cons (bb _) (.cons (bb _) (.cons (bb _) .nil))) (by decide) (by decide) (q _ (q10.trans (w13.trans (w7.trans (w8.trans (w9.trans w10))))))
end
end Sl

set_option Elab.async false
set_option linter.all false
set_option maxRecDepth 100000
set_option maxHeartbeats 400000
namespace Sl
open PySem PySem.Spec PyProof.Rows L2
abbrev sZaw : Stmt := topZ 20
theorem scZ : FnScope ["_law_script", "_law_some", "_law_at", "_law_error", "_law_things", "_law_one", "_law_cell", "_law_thing"] ["_law_script"] (defScope sZaw) := ⟨rfl, rfl, rfl, by decide +kernel, rfl, by decide +kernel, by decide +kernel⟩
abbrev veB : List Value := [.type "ValueError", .type "Exception", .type "BaseException", .type "object"]
structure Zs (K : PySem.W.Frag) (mg : Str → Option Value) (c : Nat → Addr) (CL : Addr) (fM fK fV : Addr) (fdM fdK fdV : FuncData) : Prop where
  e0 : PySem.W.excIn K (c 0) veB "ValueError.__new__" = true
  k0 : PySem.W.keepIn K (.ref (c 0)) = true
  e1 : PySem.W.excIn K (c 1) veB "ValueError.__new__" = true
  k1 : PySem.W.keepIn K (.ref (c 1)) = true
  e2 : PySem.W.excIn K (c 2) veB "ValueError.__new__" = true
  k2 : PySem.W.keepIn K (.ref (c 2)) = true
  e3 : PySem.W.excIn K (c 3) veB "ValueError.__new__" = true
  k3 : PySem.W.keepIn K (.ref (c 3)) = true
  e4 : PySem.W.excIn K (c 4) veB "ValueError.__new__" = true
  k4 : PySem.W.keepIn K (.ref (c 4)) = true
  e5 : PySem.W.excIn K (c 5) veB "ValueError.__new__" = true
  k5 : PySem.W.keepIn K (.ref (c 5)) = true
  e6 : PySem.W.excIn K (c 6) veB "ValueError.__new__" = true
  k6 : PySem.W.keepIn K (.ref (c 6)) = true
  e7 : PySem.W.excIn K (c 7) veB "ValueError.__new__" = true
  k7 : PySem.W.keepIn K (.ref (c 7)) = true
  e8 : PySem.W.excIn K (c 8) veB "ValueError.__new__" = true
  k8 : PySem.W.keepIn K (.ref (c 8)) = true
  eL : PySem.W.excIn K CL veB "ValueError.__new__" = true
  kL : PySem.W.keepIn K (.ref CL) = true
  gL : mg "LetError" = some (.ref CL)
  FM : Fun K "_law_with_message_right" "_law_with_message_right" sMsg fM fdM
  bM : Binds K fdM ["_law_error"] []
  gM : mg "_law_with_message_right" = some (.ref fM)
  FK : Fun K "_law_kinds" "_law_kinds" sKinds fK fdK
  bK : Binds K fdK ["_law_error"] []
  gK : mg "_law_kinds" = some (.ref fK)
  FV : Fun K "_law_valued_right" "_law_valued_right" sVal fV fdV
  bV : Binds K fdV ["_law_thing"] []
  gV : mg "_law_valued_right" = some (.ref fV)
/-- which class comes from which -/
structure Zm (K : PySem.W.Frag) (c : Nat → Addr) (CL : Addr) : Prop where
  msg : ∀ i, i < 9 → MsgC K CL (c i)
  kin : ∀ i j, i < 9 → j < 9 → PySem.W.kitOne K (.ref (c i)) (.ref (c j)) = some (decide (i = j))
  er : ErC K CL
  out : ∀ j, j < 9 → PySem.W.kitOne K (.ref CL) (.ref (c j)) = some false
  ve : PySem.W.kitOne K (.ref CL) (.type "ValueError") = some true
section
variable {P : Program} {w : World} {K : PySem.W.Frag} {mg : Str → Option Value} {base : Heap} {CL : Addr} {c : Nat → Addr} {cI cU cT cC cN fI fU fT fC fN : Addr} {fM fK fV : Addr} {fdM fdK fdV : FuncData}
def spZaw (K : PySem.W.Frag) : Sp := fun vs H Q _ => ∃ (a : Addr) (ns : List Int), vs = [.ref a] ∧ SqL K H a (ns.map V.int) ∧ ns.length ≤ 100000 ∧ ∀ H', Q (.bl true) H'
theorem ok_zaw {f : Addr} {fd : FuncData} (F : Fun K "law" "law" sZaw f fd) (W5 : Five K mg CL cI cU cT cC cN fI fU fT fC fN) (N : Nine mg c) (T : Zs K mg c CL fM fK fV fdM fdK fdV) (Z : Zm K c CL) (B : Bz mg) : FnG P w K mg base (L2.CX P w) 5 f fd ["_law_script"] (spZaw K) := by
  have GM : FnOk P w K mg base CX0 1 fM fdM ["_law_error"] (spMsg K CL) := ok_msg T.FM T.gL B
  have GK : FnOk P w K mg base CX0 1 fK fdK ["_law_error"] (spKinds K c) := ok_kinds T.FK N B
  have GV : FnG P w K mg base (L2.CX P w) 4 fV fdV ["_law_thing"] (spVal K) := ok_val T.FV W5 B
  refine okG F scZ (fun vs H Q E h => ?_) (fun cdv A outer s H vs Q E hG hr h => ?_)
  · obtain ⟨a, _, rfl, _⟩ := h
    rfl
  · obtain ⟨a, ns, rfl, hs, hz, q⟩ := h
    have h1 := hr.mono (by decide : 1 ≤ 4)
    refine ⟨_, PSs.nox (pss_cons (ps_set (i := 1) scZ.nd rfl (Or.inl rfl) (pe_lst (pa_cons (pe_exc1 PySem.F.excBase_ValueError T.e0 N.g0 T.k0 (by rfl) pe_str) (pa_cons (pe_exc1 PySem.F.excBase_ValueError T.e1 N.g1 T.k1 (by rfl) pe_str) (pa_cons (pe_exc1 PySem.F.excBase_ValueError T.e2 N.g2 T.k2 (by rfl) pe_str) (pa_cons (pe_exc1 PySem.F.excBase_ValueError T.e3 N.g3 T.k3 (by rfl) pe_str) (pa_cons (pe_exc1 PySem.F.excBase_ValueError T.e4 N.g4 T.k4 (by rfl) pe_str) pa_nil)))))))
      (pss_cons (ps_set (i := 1) scZ.nd rfl (Or.inl rfl) (pe_op op_cat (pv 1) (pe_lst (pa_cons (pe_exc1 PySem.F.excBase_ValueError T.e5 N.g5 T.k5 (by rfl) pe_str) (pa_cons (pe_exc1 PySem.F.excBase_ValueError T.e6 N.g6 T.k6 (by rfl) pe_str) (pa_cons (pe_exc1 PySem.F.excBase_ValueError T.e7 N.g7 T.k7 (by rfl) pe_str) (pa_cons (pe_exc1 PySem.F.excBase_ValueError T.e8 N.g8 T.k8 (by rfl) pe_str) pa_nil)))))))
      (pss_cons (ps_for PassesOwn.never rfl (pi_enum (by rfl) B.en (pa_cons (pv 1) pa_nil)) (pg_tup (by rfl) (pgs_cons (pg_name (i := 2) scZ.nd rfl (Or.inr rfl)) (pgs_cons (pg_name (i := 3) scZ.nd rfl (Or.inl rfl)) pgs_nil)))
        (pss_one (ps_if (PW.pt (pw_or (pt_not (pt_val (pe_call GM h1 (by rfl) T.gM T.FM.kp T.bM .nil pass0 (pa_cons (pv 3) pa_nil))))
            (pw_or1 (pt_cmpR (op_neD hr.units) (pe_call GK h1 (by rfl) T.gK T.FK.kp T.bK .nil pass0 (pa_cons (pv 3) pa_nil))
              (pe_lc (own := [("_law_one", 5)]) (g := gName 5) (tt := tYes) (te := tOp rEq (tVar 5) (tVar 2)) rfl scZ.nd (pi_range1 (by rfl) B.rg (pa_cons pe_int pa_nil)) (blkOk_by (own := [("_law_one", 5)]) (N := ["_law_script", "_law_some", "_law_at", "_law_error", "_law_things", "_law_one", "_law_cell", "_law_thing"]) (sc := defScope sZaw) (by decide +kernel))
                (fun _ _ _ _ _ => pg_name (i := 5) scZ.nd rfl (Or.inl rfl)) (fun _ _ _ _ _ => pts_nil) (fun _ _ _ _ _ => by exact (pe_cmpR op_eq (pv 5) (pv 2) (nomark _)))) (nomark _)))))
          (pss_one (ps_ret pe_bl))
          pss_nil)))
      (pss_cons (ps_if (PW.pt (pw_or (pt_cmpR op_in_seq pe_bl (pe_call GK h1 (by rfl) T.gK T.FK.kp T.bK .nil pass0 (pa_cons (pe_exc1 PySem.F.excBase_ValueError T.eL T.gL T.kL (by rfl) pe_str) pa_nil)) (by rfl))
            (pw_or1 (pt_not (pt_val (pe_callB call_isX (by rfl) B.isi (by decide +kernel) (pa_cons (pe_exc1 PySem.F.excBase_ValueError T.eL T.gL T.kL (by rfl) pe_str) (pa_cons (pe_bltn (v := .ty "ValueError") (by rfl) B.ve (by decide +kernel) rfl) pa_nil))))))))
        (pss_one (ps_ret pe_bl))
        pss_nil)
      (pss_cons (ps_set (i := 4) scZ.nd rfl (Or.inl rfl) (pe_lst (pa_cons pe_non (pa_cons pe_int (pa_cons (pe_un un_neg pe_int) (pa_cons pe_bl (pa_cons pe_str (pa_cons pe_str (pa_cons (pe_tup pa_nil) (pa_cons (pe_tup (pa_cons pe_int (pa_cons (pe_tup (pa_cons pe_int pa_nil)) pa_nil))) (pa_cons (pe_lst pa_nil) (pa_cons (pe_lst (pa_cons pe_int pa_nil)) (pa_cons pe_dnewK (pa_cons (pe_disp (pps_cons pe_str pe_int pps_nil) (by rfl) (by rfl) (by simp) (by decide)) (pa_cons (pe_op op_powW pe_int pe_int) pa_nil)))))))))))))))
      (pss_cons (ps_set (i := 4) scZ.nd rfl (Or.inl rfl) (pe_op op_cat (pv 4) (pe_lc (own := [("_law_cell", 6)]) (g := gName 6) (tt := tYes) rfl scZ.nd (pi_list (pe_slice sl_list (pv 0) po_none (po_some pe_int))) (blkOk_by (own := [("_law_cell", 6)]) (N := ["_law_script", "_law_some", "_law_at", "_law_error", "_law_things", "_law_one", "_law_cell", "_law_thing"]) (sc := defScope sZaw) (by decide +kernel))
                (fun _ _ _ _ _ => pg_name (i := 6) scZ.nd rfl (Or.inl rfl)) (fun _ _ _ _ _ => pts_nil) (fun _ _ _ _ _ => (pe_op op_mod (pe_callTy call_int1 (by rfl) B.int (by decide +kernel) (pa_cons (pe_callB call_abs (by rfl) B.abs (by decide +kernel) (pa_cons (pv 6) pa_nil)) pa_nil)) (pe_op op_powW pe_int pe_int))))))
      (pss_one (ps_ret (pe_cmpR (op_eqL0 hr.units) (pe_lc (own := [("_law_thing", 7)]) (g := gName 7) (tt := tNot (tB (tCall (spVal K) [] E0 (tCons (tVar 7) tNil)))) rfl scZ.nd (pi_list (pv 4)) (blkOk_by (own := [("_law_thing", 7)]) (N := ["_law_script", "_law_some", "_law_at", "_law_error", "_law_things", "_law_one", "_law_cell", "_law_thing"]) (sc := defScope sZaw) (by decide +kernel))
                (fun _ _ _ _ _ => pg_name (i := 7) scZ.nd rfl (Or.inl rfl)) (fun _ _ _ _ _ => pts_one (pt_not (pt_val (by exact (pe_callG hG GV hr (by rfl) T.gV T.FV.kp T.bV .nil passL (pa_cons (pv 7) pa_nil)))))) (fun _ _ _ _ _ => (pv 7))) (pe_lst pa_nil) (nomark _)))))))))), ?_⟩
    refine fun a0 n0 => ?_
    have s0 := Same.new (o := ExO (.ref (c 0)) a0) n0
    have x0 : (upd H a0 (ExO (.ref (c 0)) a0)) a0 = some (ExO (.ref (c 0)) a0) := upd_same
    generalize upd H a0 (ExO (.ref (c 0)) a0) = G0 at s0 x0 ⊢
    refine fun a1 n1 => ?_
    have s1 := Same.new (o := ExO (.ref (c 1)) a1) n1
    have x1 : (upd G0 a1 (ExO (.ref (c 1)) a1)) a1 = some (ExO (.ref (c 1)) a1) := upd_same
    generalize upd G0 a1 (ExO (.ref (c 1)) a1) = G1 at s1 x1 ⊢
    refine fun a2 n2 => ?_
    have s2 := Same.new (o := ExO (.ref (c 2)) a2) n2
    have x2 : (upd G1 a2 (ExO (.ref (c 2)) a2)) a2 = some (ExO (.ref (c 2)) a2) := upd_same
    generalize upd G1 a2 (ExO (.ref (c 2)) a2) = G2 at s2 x2 ⊢
    refine fun a3 n3 => ?_
    have s3 := Same.new (o := ExO (.ref (c 3)) a3) n3
    have x3 : (upd G2 a3 (ExO (.ref (c 3)) a3)) a3 = some (ExO (.ref (c 3)) a3) := upd_same
    generalize upd G2 a3 (ExO (.ref (c 3)) a3) = G3 at s3 x3 ⊢
    refine fun a4 n4 => ?_
    have s4 := Same.new (o := ExO (.ref (c 4)) a4) n4
    have x4 : (upd G3 a4 (ExO (.ref (c 4)) a4)) a4 = some (ExO (.ref (c 4)) a4) := upd_same
    generalize upd G3 a4 (ExO (.ref (c 4)) a4) = G4 at s4 x4 ⊢
    refine ⟨(by show 5 ≤ sizeLine; decide), fun p1 np1 => ?_⟩
    have sp1 := Same.new (o := .lst [V.ref a0, .ref a1, .ref a2, .ref a3, .ref a4]) np1
    have lp1 : (upd G4 p1 (.lst [V.ref a0, .ref a1, .ref a2, .ref a3, .ref a4])) p1 = some (.lst [V.ref a0, .ref a1, .ref a2, .ref a3, .ref a4]) := upd_same
    generalize upd G4 p1 (.lst [V.ref a0, .ref a1, .ref a2, .ref a3, .ref a4]) = F0 at sp1 lp1 ⊢
    refine ⟨.ref p1, rfl, ?_⟩
    refine fun a5 n5 => ?_
    have s5 := Same.new (o := ExO (.ref (c 5)) a5) n5
    have x5 : (upd F0 a5 (ExO (.ref (c 5)) a5)) a5 = some (ExO (.ref (c 5)) a5) := upd_same
    generalize upd F0 a5 (ExO (.ref (c 5)) a5) = G5 at s5 x5 ⊢
    refine fun a6 n6 => ?_
    have s6 := Same.new (o := ExO (.ref (c 6)) a6) n6
    have x6 : (upd G5 a6 (ExO (.ref (c 6)) a6)) a6 = some (ExO (.ref (c 6)) a6) := upd_same
    generalize upd G5 a6 (ExO (.ref (c 6)) a6) = G6 at s6 x6 ⊢
    refine fun a7 n7 => ?_
    have s7 := Same.new (o := ExO (.ref (c 7)) a7) n7
    have x7 : (upd G6 a7 (ExO (.ref (c 7)) a7)) a7 = some (ExO (.ref (c 7)) a7) := upd_same
    generalize upd G6 a7 (ExO (.ref (c 7)) a7) = G7 at s7 x7 ⊢
    refine fun a8 n8 => ?_
    have s8 := Same.new (o := ExO (.ref (c 8)) a8) n8
    have x8 : (upd G7 a8 (ExO (.ref (c 8)) a8)) a8 = some (ExO (.ref (c 8)) a8) := upd_same
    generalize upd G7 a8 (ExO (.ref (c 8)) a8) = G8 at s8 x8 ⊢
    refine ⟨(by show 4 ≤ sizeLine; decide), fun p2 np2 => ?_⟩
    have sp2 := Same.new (o := .lst [V.ref a5, .ref a6, .ref a7, .ref a8]) np2
    have lp2 : (upd G8 p2 (.lst [V.ref a5, .ref a6, .ref a7, .ref a8])) p2 = some (.lst [V.ref a5, .ref a6, .ref a7, .ref a8]) := upd_same
    generalize upd G8 p2 (.lst [V.ref a5, .ref a6, .ref a7, .ref a8]) = F1 at sp2 lp2 ⊢
    have mid := s5.trans (s6.trans (s7.trans (s8.trans sp2)))
    refine ⟨p1, p2, _, _, rfl, rfl, mid _ _ lp1, lp2, (by show 5 + 4 ≤ sizeLine; decide), fun p3 np3 => ?_⟩
    have sp3 := Same.new (o := .lst ([V.ref a0, .ref a1, .ref a2, .ref a3, .ref a4] ++ [V.ref a5, .ref a6, .ref a7, .ref a8])) np3
    have lp3 : (upd F1 p3 (.lst ([V.ref a0, .ref a1, .ref a2, .ref a3, .ref a4] ++ [V.ref a5, .ref a6, .ref a7, .ref a8]))) p3 = some (.lst [V.ref a0, .ref a1, .ref a2, .ref a3, .ref a4, .ref a5, .ref a6, .ref a7, .ref a8]) := upd_same
    generalize upd F1 p3 (.lst ([V.ref a0, .ref a1, .ref a2, .ref a3, .ref a4] ++ [V.ref a5, .ref a6, .ref a7, .ref a8])) = F2 at sp3 lp3 ⊢
    have e8 := sp2.trans sp3
    have e7 := s8.trans e8
    have e6 := s7.trans e7
    have e5 := s6.trans e6
    have e4 := sp1.trans (s5.trans e5)
    have e3 := s4.trans e4
    have e2 := s3.trans e3
    have e1 := s2.trans e2
    have e0 := s1.trans e1
    have eH := s0.trans e0
    have item : ∀ (i : Nat) (x : V), ([V.ref a0, .ref a1, .ref a2, .ref a3, .ref a4, .ref a5, .ref a6, .ref a7, .ref a8] : List V)[i]? = some x → ∃ b, x = .ref b ∧ IsE F2 b (c i) ∧ i < 9 := by
      intro i x hx
      match i, hx with
      | 0, hx => cases hx; exact ⟨a0, rfl, .inl (e0 _ _ x0), by decide⟩
      | 1, hx => cases hx; exact ⟨a1, rfl, .inl (e1 _ _ x1), by decide⟩
      | 2, hx => cases hx; exact ⟨a2, rfl, .inl (e2 _ _ x2), by decide⟩
      | 3, hx => cases hx; exact ⟨a3, rfl, .inl (e3 _ _ x3), by decide⟩
      | 4, hx => cases hx; exact ⟨a4, rfl, .inl (e4 _ _ x4), by decide⟩
      | 5, hx => cases hx; exact ⟨a5, rfl, .inl (e5 _ _ x5), by decide⟩
      | 6, hx => cases hx; exact ⟨a6, rfl, .inl (e6 _ _ x6), by decide⟩
      | 7, hx => cases hx; exact ⟨a7, rfl, .inl (e7 _ _ x7), by decide⟩
      | 8, hx => cases hx; exact ⟨a8, rfl, .inl (e8 _ _ x8), by decide⟩
      | i + 9, hx => exact absurd hx (by simp)
    clear s0 s1 s2 s3 s4 s5 s6 s7 s8 x0 x1 x2 x3 x4 x5 x6 x7 x8 e0 e1 e2 e3 e4 e5 e6 e7 e8 sp1 sp2 sp3 lp1 lp2 mid
    generalize [V.ref a0, .ref a1, .ref a2, .ref a3, .ref a4, .ref a5, .ref a6, .ref a7, .ref a8] = es at lp3 item ⊢
    refine ⟨.ref p3, rfl, p3, es, rfl, SqL.of lp3, for_enum (K := K) (a := p3) (xs := es) (fun i σ' H' => ∃ y2 y3, σ' = [some (.ref a), some (.ref p3), y2, y3, none, none, none, none] ∧ Same F2 H')
      ⟨none, none, rfl, Same.refl _⟩ (fun i σ' H' _ ⟨y2, y3, _, sm⟩ => SqL.of (sm _ _ lp3)) ?_ ?_⟩
    · rintro i x σ' H1 t hx ⟨y2, y3, rfl, sm⟩ nt
      obtain ⟨b, rfl, hb, i9⟩ := item i x hx
      have st := Same.new (o := .tup [V.int (i : Nat), .ref b]) nt
      have lt : (upd H1 t (.tup [V.int (i : Nat), .ref b])) t = some (.tup [V.int (i : Nat), .ref b]) := upd_same
      generalize upd H1 t (.tup [V.int (i : Nat), .ref b]) = H2 at st lt ⊢
      refine ⟨t, _, rfl, SqT.of lt, rfl, ?_⟩
      refine ⟨_, _, rfl, _, _, rfl, rfl, ?_⟩
      refine ⟨.ref b, rfl, b, c i, rfl, hb.same (sm.trans st), Z.msg i i9, fun H3 s3 => ⟨true, rfl, iteF ?_⟩⟩
      refine ⟨.ref b, rfl, b, c i, fun j => decide (i = j), rfl, hb.same ((sm.trans st).trans s3), (Z.msg i i9).er, fun j hj => Z.kin i j i9 hj, fun pk H4 s4 lk => ?_⟩
      refine ⟨9, rfl, by decide, by decide, fun D0 nD => ?_⟩
      refine lc_range (lo := 0) (n := 9) (fun j H' => Same H4 H' ∧ H' D0 = some (.lst (((List.range j).map fun k => decide (i = k)).map V.bl))) ⟨Same.new nD, upd_same⟩ ?_ ?_
      · rintro j H5 hj ⟨s5, hD⟩
        refine ⟨rfl, yes ⟨_, rfl, _, rfl, rfl, _, hD, by rw [List.length_map, List.length_map, List.length_range]; exact Nat.lt_trans hj (by decide), fun x o e => ?_, ?_⟩⟩
        · rw [upd_ne (ne_of_none e nD)]
          exact s5 _ _ e
        · rw [upd_same, List.range_succ, List.map_append, List.map_append]
          have ed : decide (V.int (0 + (j : Int)) = V.int (i : Int)) = decide (i = j) := by
            by_cases z : i = j
            · subst z
              simp
            · have z2 : ¬ (V.int (0 + (j : Int)) = V.int (i : Int)) := fun q => z (by
                have q2 := V.int.inj q
                omega)
              rw [decide_eq_false z, decide_eq_false z2]
          rw [ed]
          rfl
      · rintro H5 ⟨s5, hD⟩
        have lk5 : H5 pk = some (.lst (((List.range 9).map fun k => decide (i = k)).map V.bl)) := s5 _ _ lk
        obtain ⟨g1, g2⟩ := bools_good ((List.range 9).map fun k => decide (i = k))
        refine rNe_lst lk5 hD (bools_rdd _) (bools_rdd _) g1 g2 ⟨_, rfl, iteF ?_⟩
        exact ⟨_, _, rfl, sm.trans (st.trans (s3.trans (s4.trans s5)))⟩
    · rintro σ' H1 ⟨y2, y3, rfl, sm⟩
      -- an error of the base class itself
      refine fun aL nL => ?_
      have sL := Same.new (o := ExO (.ref CL) aL) nL
      have xL : (upd H1 aL (ExO (.ref CL) aL)) aL = some (ExO (.ref CL) aL) := upd_same
      generalize upd H1 aL (ExO (.ref CL) aL) = H2 at sL xL ⊢
      refine ⟨aL, CL, fun _ => false, rfl, .inl xL, Z.er, fun j hj => Z.out j hj, fun pk H3 s3 lk => ?_⟩
      refine ⟨pk, _, rfl, .inl (SqL.of lk), rfl, rfl, _, rfl, ?_⟩
      refine iteF ?_
      refine fun aM nM => ?_
      have sM := Same.new (o := ExO (.ref CL) aM) nM
      have xM : (upd H3 aM (ExO (.ref CL) aM)) aM = some (ExO (.ref CL) aM) := upd_same
      generalize upd H3 aM (ExO (.ref CL) aM) = H4 at sM xM ⊢
      refine ⟨aM, CL, .ty "ValueError", _, true, rfl, .inl xM, Z.er, fun u r => r, Z.ve, true, rfl, iteF ?_⟩
      have toH4 : Same H H4 := eH.trans (sm.trans (sL.trans (s3.trans sM)))
      -- the things
      refine ⟨1, rfl, ?_⟩
      refine ⟨(by show 0 ≤ sizeLine; decide), fun t0 nt0 => ?_⟩
      have st0 := Same.new (o := .tup []) nt0
      have lt0 : (upd H4 t0 (.tup [])) t0 = some (.tup []) := upd_same
      generalize upd H4 t0 (.tup []) = J0 at st0 lt0 ⊢
      refine ⟨(by show 1 ≤ sizeLine; decide), fun t1 nt1 => ?_⟩
      have st1 := Same.new (o := .tup [V.int 2]) nt1
      have lt1 : (upd J0 t1 (.tup [V.int 2])) t1 = some (.tup [V.int 2]) := upd_same
      generalize upd J0 t1 (.tup [V.int 2]) = J1 at st1 lt1 ⊢
      refine ⟨(by show 2 ≤ sizeLine; decide), fun t2 nt2 => ?_⟩
      have st2 := Same.new (o := .tup [V.int 1, .ref t1]) nt2
      have lt2 : (upd J1 t2 (.tup [V.int 1, .ref t1])) t2 = some (.tup [V.int 1, .ref t1]) := upd_same
      generalize upd J1 t2 (.tup [V.int 1, .ref t1]) = J2 at st2 lt2 ⊢
      refine ⟨(by show 0 ≤ sizeLine; decide), fun l0 nl0 => ?_⟩
      have sl0 := Same.new (o := .lst []) nl0
      have ll0 : (upd J2 l0 (.lst [])) l0 = some (.lst []) := upd_same
      generalize upd J2 l0 (.lst []) = J3 at sl0 ll0 ⊢
      refine ⟨(by show 1 ≤ sizeLine; decide), fun l1 nl1 => ?_⟩
      have sl1 := Same.new (o := .lst [V.int 1]) nl1
      have ll1 : (upd J3 l1 (.lst [V.int 1])) l1 = some (.lst [V.int 1]) := upd_same
      generalize upd J3 l1 (.lst [V.int 1]) = J4 at sl1 ll1 ⊢
      refine fun d0 nd0 => ?_
      have sd0 := Same.new (o := .dK []) nd0
      have ld0 : (upd J4 d0 (.dK [])) d0 = some (.dK []) := upd_same
      generalize upd J4 d0 (.dK []) = J5 at sd0 ld0 ⊢
      refine fun d1 nd1 => ⟨upd_same, [(.inr "a", .int 1)], rfl, by decide, ?_⟩
      have sd1 : Same J5 (upd (upd J5 d1 (.dK [])) d1 (.dK [(.inr "a", .int 1)])) := fun b x e => by
        rw [upd_ne (ne_of_none e nd1), upd_ne (ne_of_none e nd1)]
        exact e
      have ld1 : (upd (upd J5 d1 (.dK [])) d1 (.dK [(.inr "a", .int 1)])) d1 = some (.dK [(.inr "a", .int 1)]) := upd_same
      show tOp _ _ _ _ (upd (upd J5 d1 (.dK [])) d1 (.dK [(.inr "a", .int 1)])) _
      generalize upd (upd J5 d1 (.dK [])) d1 (.dK [(.inr "a", .int 1)]) = J9 at sd1 ld1 ⊢
      have q9 := sd1
      have q8 := sd0.trans q9
      have q7 := sl1.trans q8
      have q6 := sl0.trans q7
      have q5 := st2.trans q6
      have q4 := st1.trans q5
      have q3 := st0.trans q4
      refine ⟨10, 39, rfl, rfl, ⟨by decide, by decide +kernel⟩, (by show 13 ≤ sizeLine; decide), fun pT npT => ?_⟩
      have sT := Same.new (o := .lst [V.non, .int 0, .int (-1), .bl true, .str "", .str "a", .ref t0, .ref t2, .ref l0, .ref l1, .ref d0, .ref d1, .int ((10 : Int) ^ (39 : Int).toNat)]) npT
      have lT : (upd J9 pT (.lst [V.non, .int 0, .int (-1), .bl true, .str "", .str "a", .ref t0, .ref t2, .ref l0, .ref l1, .ref d0, .ref d1, .int ((10 : Int) ^ (39 : Int).toNat)])) pT = some (.lst [V.non, .int 0, .int (-1), .bl true, .str "", .str "a", .ref t0, .ref t2, .ref l0, .ref l1, .ref d0, .ref d1, .int ((10 : Int) ^ (39 : Int).toNat)]) := upd_same
      generalize upd J9 pT (.lst [V.non, .int 0, .int (-1), .bl true, .str "", .str "a", .ref t0, .ref t2, .ref l0, .ref l1, .ref d0, .ref d1, .int ((10 : Int) ^ (39 : Int).toNat)]) = JT at sT lT ⊢
      have ths : ∀ x ∈ [V.non, .int 0, .int (-1), .bl true, .str "", .str "a", .ref t0, .ref t2, .ref l0, .ref l1, .ref d0, .ref d1, .int ((10 : Int) ^ (39 : Int).toNat)], Th K JT x := by
        have b39 : ((10 : Int) ^ (39 : Int).toNat).natAbs.log2 < 140 := by decide +kernel
        have kt0 := sT _ _ (q4 _ _ lt0)
        have kt1 := sT _ _ (q5 _ _ lt1)
        have kt2 := sT _ _ (q6 _ _ lt2)
        have kl0 := sT _ _ (q7 _ _ ll0)
        have kl1 := sT _ _ (q8 _ _ ll1)
        have kd0 := sT _ _ (q9 _ _ ld0)
        have kd1 := sT _ _ ld1
        intro x hx
        simp only [List.mem_cons, List.not_mem_nil, or_false] at hx
        rcases hx with rfl | rfl | rfl | rfl | rfl | rfl | rfl | rfl | rfl | rfl | rfl | rfl | rfl
        · exact th_of (d := .none) (.dp .non) (by decide +kernel) (by decide +kernel) (by decide +kernel)
        · exact th_int (by decide +kernel)
        · exact th_int (by decide +kernel)
        · exact th_of (d := .bool true) (.dp (.bl true)) (by decide +kernel) (by decide +kernel) (by decide +kernel)
        · exact th_of (d := .str "") (.dp (.str _)) (by decide +kernel) (by decide +kernel) (by decide +kernel)
        · exact th_of (d := .str "a") (.dp (.str _)) (by decide +kernel) (by decide +kernel) (by decide +kernel)
        · exact th_of (d := .tuple []) (.dp (.tup (SqT.of kt0) .nil)) (by decide +kernel) (by decide +kernel) (by decide +kernel)
        · exact th_of (d := .tuple [.int 1, .tuple [.int 2]]) (.dp (.tup (SqT.of kt2) (.cons (.int 1) (.cons (.tup (SqT.of kt1) (.cons (.int 2) .nil)) .nil)))) (by decide +kernel) (by decide +kernel) (by decide +kernel)
        · exact th_of (d := .list []) (.dp (.lst (SqL.of kl0) .nil)) (by decide +kernel) (by decide +kernel) (by decide +kernel)
        · exact th_of (d := .list [.int 1]) (.dp (.lst (SqL.of kl1) (.cons (.int 1) .nil))) (by decide +kernel) (by decide +kernel) (by decide +kernel)
        · exact th_of (d := .dict []) (.d0 kd0) (by decide +kernel) (by decide +kernel) (by decide +kernel)
        · exact th_of (d := .dict [(.str "a", .int 1)]) (.d1 kd1) (by decide +kernel) (by decide +kernel) (by decide +kernel)
        · exact th_int b39
      have tz : ([V.non, .int 0, .int (-1), .bl true, .str "", .str "a", .ref t0, .ref t2, .ref l0, .ref l1, .ref d0, .ref d1, .int ((10 : Int) ^ (39 : Int).toNat)]).length = 13 := rfl
      generalize [V.non, .int 0, .int (-1), .bl true, .str "", .str "a", .ref t0, .ref t2, .ref l0, .ref l1, .ref d0, .ref d1, .int ((10 : Int) ^ (39 : Int).toNat)] = ts at lT ths tz ⊢
      have toT : Same H JT := toH4.trans (q3.trans sT)
      clear q3 q4 q5 q6 q7 q8 q9 st0 st1 st2 sl0 sl1 sd0 sd1 lt0 lt1 lt2 ll0 ll1 ld0 ld1
      -- the script's first nine
      refine ⟨.ref pT, rfl, .ref a, rfl, 9, rfl, a, _, rfl, sql_same toT hs, fun pS npS => ?_⟩
      have sS := Same.new (o := .lst (cutV (ns.map V.int) none (some 9))) npS
      have lS : (upd JT pS (.lst (cutV (ns.map V.int) none (some 9)))) pS = some (.lst (cutV (ns.map V.int) none (some 9))) := upd_same
      have inS : ∀ x ∈ cutV (ns.map V.int) none (some 9), ∃ n, x = V.int n := fun x hx => by
        unfold cutV at hx
        have h2 := List.mem_of_mem_drop (List.mem_of_mem_take hx)
        obtain ⟨n, _, e⟩ := List.mem_map.mp h2
        exact ⟨n, e.symm⟩
      have zS := cutV_length (ns.map V.int) none (some 9)
      rw [List.length_map] at zS
      generalize upd JT pS (.lst (cutV (ns.map V.int) none (some 9))) = JS at sS lS ⊢
      generalize cutV (ns.map V.int) none (some 9) = cs at lS inS zS ⊢
      refine ⟨pS, rfl, ⟨_, SqL.of lS⟩, fun D0 nD => ?_⟩
      refine lc_list (K := K) (a := pS) (xs := cs) (fun j H' => Same JS H' ∧ ∃ zs, H' D0 = some (.lst zs) ∧ zs.length ≤ j ∧ ∀ z ∈ zs, ∃ m : Int, z = .int m ∧ m.natAbs.log2 < 140) ⟨Same.new nD, [], upd_same, Nat.le_refl _, fun z hz => absurd hz (by simp)⟩
        (fun j H' _ ⟨sm, _⟩ => SqL.of (sm _ _ lS)) ?_ ?_
      · rintro j x H5 hx ⟨s5, zs, hD, zl, zi⟩
        obtain ⟨n, rfl⟩ := inS x (List.mem_of_getElem? hx)
        have jl : j < cs.length := (List.getElem?_eq_some_iff.mp hx).1
        have hline : sizeLine = 16777216 := sizeLine_eq
        refine ⟨rfl, yes ⟨.int n, rfl, n, rfl, .inl ⟨_, rfl, 10, 40, rfl, rfl, ⟨by decide, by decide +kernel⟩, _, _, rfl, rfl, (by show (0 : Int) < _; decide +kernel), zs, hD, by omega, fun b o e => ?_, zs ++ [_], upd_same, by rw [List.length_append]; exact Nat.succ_le_succ zl, fun z hz => ?_⟩⟩⟩
        · rw [upd_ne (ne_of_none e nD)]
          exact s5 _ _ e
        · rcases List.mem_append.mp hz with h | h
          · exact zi z h
          · rw [List.mem_singleton] at h
            refine ⟨_, h, ?_⟩
            have p40 : (0 : Int) < (10 : Int) ^ (40 : Int).toNat := by decide +kernel
            have l40 : ((10 : Int) ^ (40 : Int).toNat).natAbs < 2 ^ 140 := by decide +kernel
            generalize (10 : Int) ^ (40 : Int).toNat = B at p40 l40
            generalize (if n < 0 then -n else n) = m
            have m0 := Int.emod_nonneg m (by omega : B ≠ 0)
            have m1 := Int.emod_lt_of_pos m p40
            by_cases z0 : (m % B).natAbs = 0
            · rw [z0]
              decide
            · exact (Nat.log2_lt z0).2 (by omega)
      · rintro H5 ⟨s5, zs, hD, zl, zi⟩
        have hline : sizeLine = 16777216 := sizeLine_eq
        refine ⟨pT, D0, ts, zs, rfl, rfl, s5 _ _ (sS _ _ lT), hD, by omega, fun pA nA => ?_⟩
        have sA := Same.new (o := .lst (ts ++ zs)) nA
        have lA : (upd H5 pA (.lst (ts ++ zs))) pA = some (.lst (ts ++ zs)) := upd_same
        generalize upd H5 pA (.lst (ts ++ zs)) = JA at sA lA ⊢
        have sTA := sS.trans (s5.trans sA)
        have thA : ∀ x ∈ ts ++ zs, Th K JA x := fun x hx => by
          rcases List.mem_append.mp hx with h | h
          · obtain ⟨d, sw, r⟩ := ths x h
            exact ⟨d, sw.same sTA, r⟩
          · obtain ⟨m, rfl, hm⟩ := zi x h
            exact th_int hm
        refine ⟨.ref pA, rfl, pA, rfl, ⟨_, SqL.of lA⟩, fun D1 nD1 => ?_⟩
        refine lc_list (K := K) (a := pA) (xs := ts ++ zs) (fun j H' => Same JA H' ∧ H' D1 = some (.lst [])) ⟨Same.new nD1, upd_same⟩ (fun j H' _ ⟨sm, _⟩ => SqL.of (sm _ _ lA)) ?_ ?_
        · rintro j x H6 hx ⟨s6, hD1⟩
          obtain ⟨d, sw, sh, dp, sz⟩ := thA x (List.mem_of_getElem? hx)
          exact ⟨rfl, x, rfl, x, d, rfl, sw.same s6, sh, dp, sz, fun H7 s7 => ⟨true, rfl, iteF ⟨s6.trans s7, s7 _ _ hD1⟩⟩⟩
        · rintro H6 ⟨s6, hD1⟩
          exact ⟨Nat.zero_le _, fun u nu => ⟨D1, u, [], rfl, rfl, SqL.of (Same.new nu _ _ hD1), SqL.of upd_same, q _⟩⟩
end
end Sl

set_option Elab.async false
set_option linter.all false
set_option maxRecDepth 100000
set_option maxHeartbeats 2000000
namespace Sl
open PySem PySem.Spec PyProof.Rows L2 PySem.HandSPX
theorem exm_self {K : PySem.W.Frag} {S : Addr} (h1 : PySem.W.subIn K (.ref S) (.type "BaseException") = some true) (h2 : PySem.W.isClsIn K S = true) (h3 : PySem.W.typeIn K (.ref S) = some (.type "type")) (h4 : PySem.W.subIn K (.ref S) (.ref S) = some true) :
    PySem.W.exmOne K (.ref S) (.ref S) = some true := by
  have e1 : (PySem.W.subIn K (.ref S) (.type "BaseException") == some true) = true := by rw [h1] <;> rfl
  have h2' : (PySem.W.clsIn K S).isSome = true := h2
  have e2 : ((PySem.W.clsIn K S).isSome && PySem.W.typeIn K (.ref S) == some (.type "type")) = true := by rw [h2', h3] <;> rfl
  show (if (PySem.W.subIn K (.ref S) (.type "BaseException") == some true) = true then (if ((PySem.W.clsIn K S).isSome && PySem.W.typeIn K (.ref S) == some (.type "type")) = true then PySem.W.subIn K (.ref S) (.ref S) else none) else none) = some true
  rw [if_pos e1, if_pos e2]
  exact h4
def nine (c0 c1 c2 c3 c4 c5 c6 c7 c8 : Addr) : Nat → Addr
  | 0 => c0
  | 1 => c1
  | 2 => c2
  | 3 => c3
  | 4 => c4
  | 5 => c5
  | 6 => c6
  | 7 => c7
  | _ => c8
theorem of_nine {p : Nat → Prop} (h0 : p 0) (h1 : p 1) (h2 : p 2) (h3 : p 3) (h4 : p 4) (h5 : p 5) (h6 : p 6) (h7 : p 7) (h8 : p 8) : ∀ i, i < 9 → p i
  | 0, _ => h0
  | 1, _ => h1
  | 2, _ => h2
  | 3, _ => h3
  | 4, _ => h4
  | 5, _ => h5
  | 6, _ => h6
  | 7, _ => h7
  | 8, _ => h8
  | i + 9, h => absurd h (by omega)
def oB (a : Option Bool) (b : Bool) : Bool := match a with
  | some x => x == b
  | none => false
theorem oB_ok {a : Option Bool} {b : Bool} (h : oB a b = true) : a = some b := by
  cases a with
  | none => cases h
  | some x => rw [beq_iff_eq.mp (show (x == b) = true from h)]
theorem ba {a b : Bool} (h : (a && b) = true) : a = true ∧ b = true := Bool.and_eq_true_iff.mp h
theorem all_mk {P : Program} {w : World} {K : PySem.W.Frag} {h : Heap} {mg : Str → Option Value} {fa : Addr} (X : K.In h) (G : h.Ns mainGlobals mg) (hfa : mg "law" = some (.ref fa))
    {CL c0 c1 c2 c3 c4 c5 c6 c7 c8 : Addr}
    {cI fI : Addr} {nmI qI : Str} {NI : Addr} {bsI : List Value} {snI : List Str} {subI : List Value} {abI : Bool} {colI : Option Bool} {ddI : Option Addr} {m0I m1I m2I m3I m5I : Option Value} {odII anII : Option Addr} {slII : Array (Option Value)} {ocII dcII pmII cdII ctII : Value} {p1I p2I q1I q2I q3I q4I : Pos}
    {cU fU : Addr} {nmU qU : Str} {NU : Addr} {bsU : List Value} {snU : List Str} {subU : List Value} {abU : Bool} {colU : Option Bool} {ddU : Option Addr} {m0U m1U m2U m3U m5U : Option Value} {odIU anIU : Option Addr} {slIU : Array (Option Value)} {ocIU dcIU pmIU cdIU ctIU : Value} {p1U p2U q1U q2U q3U q4U : Pos}
    {cT fT : Addr} {nmT qT : Str} {NT : Addr} {bsT : List Value} {snT : List Str} {subT : List Value} {abT : Bool} {colT : Option Bool} {ddT : Option Addr} {m0T m1T m2T m3T m5T : Option Value} {odIT anIT : Option Addr} {slIT : Array (Option Value)} {ocIT dcIT pmIT cdIT ctIT : Value} {p1T p2T q1T q2T q3T q4T : Pos}
    {cC fC : Addr} {nmC qC : Str} {NC : Addr} {bsC : List Value} {snC : List Str} {subC : List Value} {abC : Bool} {colC : Option Bool} {ddC : Option Addr} {m0C m1C m2C m3C m5C : Option Value} {odIC anIC : Option Addr} {slIC : Array (Option Value)} {ocIC dcIC pmIC cdIC ctIC : Value} {p1C p2C q1C q2C q3C q4C : Pos}
    {cN fN : Addr} {nmN qN : Str} {NN : Addr} {bsN : List Value} {snN : List Str} {subN : List Value} {abN : Bool} {colN : Option Bool} {ddN : Option Addr} {m0N m1N m2N m3N m5N : Option Value} {odIN anIN : Option Addr} {slIN : Array (Option Value)} {ocIN dcIN pmIN cdIN ctIN : Value} {p1N p2N q1N q2N q3N q4N : Pos}
    {gM : Addr} {odM anM : Option Addr} {slM : Array (Option Value)} {ocM kVM dcM pmM cdM ctM : Value}
    {gK : Addr} {odK anK : Option Addr} {slK : Array (Option Value)} {ocK kVK dcK pmK cdK ctK : Value}
    {gV : Addr} {odV anV : Option Addr} {slV : Array (Option Value)} {ocV kVV dcV pmV cdV ctV : Value}
    {gY : Addr} {odY anY : Option Addr} {slY : Array (Option Value)} {ocY kVY dcY pmY cdY ctY : Value}
    (aL : PySem.W.nsIn K mainGlobals "LetError" = some (some (.ref CL)))
    (a0 : PySem.W.nsIn K mainGlobals "InvalidName" = some (some (.ref c0)))
    (a1 : PySem.W.nsIn K mainGlobals "InvalidTerm" = some (some (.ref c1)))
    (a2 : PySem.W.nsIn K mainGlobals "InvalidGraph" = some (some (.ref c2)))
    (a3 : PySem.W.nsIn K mainGlobals "InvalidFamily" = some (some (.ref c3)))
    (a4 : PySem.W.nsIn K mainGlobals "InvalidAddress" = some (some (.ref c4)))
    (a5 : PySem.W.nsIn K mainGlobals "InvalidOperation" = some (some (.ref c5)))
    (a6 : PySem.W.nsIn K mainGlobals "InvalidEdit" = some (some (.ref c6)))
    (a7 : PySem.W.nsIn K mainGlobals "ParseError" = some (some (.ref c7)))
    (a8 : PySem.W.nsIn K mainGlobals "InvalidCommand" = some (some (.ref c8)))
    (e0 : PySem.W.excIn K c0 veB "ValueError.__new__" = true)
    (k0 : PySem.W.keepIn K (.ref c0) = true)
    (e1 : PySem.W.excIn K c1 veB "ValueError.__new__" = true)
    (k1 : PySem.W.keepIn K (.ref c1) = true)
    (e2 : PySem.W.excIn K c2 veB "ValueError.__new__" = true)
    (k2 : PySem.W.keepIn K (.ref c2) = true)
    (e3 : PySem.W.excIn K c3 veB "ValueError.__new__" = true)
    (k3 : PySem.W.keepIn K (.ref c3) = true)
    (e4 : PySem.W.excIn K c4 veB "ValueError.__new__" = true)
    (k4 : PySem.W.keepIn K (.ref c4) = true)
    (e5 : PySem.W.excIn K c5 veB "ValueError.__new__" = true)
    (k5 : PySem.W.keepIn K (.ref c5) = true)
    (e6 : PySem.W.excIn K c6 veB "ValueError.__new__" = true)
    (k6 : PySem.W.keepIn K (.ref c6) = true)
    (e7 : PySem.W.excIn K c7 veB "ValueError.__new__" = true)
    (k7 : PySem.W.keepIn K (.ref c7) = true)
    (e8 : PySem.W.excIn K c8 veB "ValueError.__new__" = true)
    (k8 : PySem.W.keepIn K (.ref c8) = true)
    (eL : PySem.W.excIn K CL veB "ValueError.__new__" = true)
    (kL : PySem.W.keepIn K (.ref CL) = true)
    (er1_0 : (PySem.W.clsIn K c0).isSome = true)
    (er2_0 : PySem.W.findIn K (.ref c0) "__getattribute__" = some (some (.builtin "BaseException.__getattribute__")))
    (er3_0 : PySem.W.findIn K (.ref c0) "__getattr__" = some none)
    (er4_0 : PySem.W.subIn K (.ref c0) (.type "BaseException") = some true)
    (er5_0 : PySem.W.findIn K (.ref c0) "__class__" = some (some (.builtin "object.__class__")))
    (er8_0 : PySem.W.mroIn K c0 (.type "object") = some true)
    (er1_1 : (PySem.W.clsIn K c1).isSome = true)
    (er2_1 : PySem.W.findIn K (.ref c1) "__getattribute__" = some (some (.builtin "BaseException.__getattribute__")))
    (er3_1 : PySem.W.findIn K (.ref c1) "__getattr__" = some none)
    (er4_1 : PySem.W.subIn K (.ref c1) (.type "BaseException") = some true)
    (er5_1 : PySem.W.findIn K (.ref c1) "__class__" = some (some (.builtin "object.__class__")))
    (er8_1 : PySem.W.mroIn K c1 (.type "object") = some true)
    (er1_2 : (PySem.W.clsIn K c2).isSome = true)
    (er2_2 : PySem.W.findIn K (.ref c2) "__getattribute__" = some (some (.builtin "BaseException.__getattribute__")))
    (er3_2 : PySem.W.findIn K (.ref c2) "__getattr__" = some none)
    (er4_2 : PySem.W.subIn K (.ref c2) (.type "BaseException") = some true)
    (er5_2 : PySem.W.findIn K (.ref c2) "__class__" = some (some (.builtin "object.__class__")))
    (er8_2 : PySem.W.mroIn K c2 (.type "object") = some true)
    (er1_3 : (PySem.W.clsIn K c3).isSome = true)
    (er2_3 : PySem.W.findIn K (.ref c3) "__getattribute__" = some (some (.builtin "BaseException.__getattribute__")))
    (er3_3 : PySem.W.findIn K (.ref c3) "__getattr__" = some none)
    (er4_3 : PySem.W.subIn K (.ref c3) (.type "BaseException") = some true)
    (er5_3 : PySem.W.findIn K (.ref c3) "__class__" = some (some (.builtin "object.__class__")))
    (er8_3 : PySem.W.mroIn K c3 (.type "object") = some true)
    (er1_4 : (PySem.W.clsIn K c4).isSome = true)
    (er2_4 : PySem.W.findIn K (.ref c4) "__getattribute__" = some (some (.builtin "BaseException.__getattribute__")))
    (er3_4 : PySem.W.findIn K (.ref c4) "__getattr__" = some none)
    (er4_4 : PySem.W.subIn K (.ref c4) (.type "BaseException") = some true)
    (er5_4 : PySem.W.findIn K (.ref c4) "__class__" = some (some (.builtin "object.__class__")))
    (er8_4 : PySem.W.mroIn K c4 (.type "object") = some true)
    (er1_5 : (PySem.W.clsIn K c5).isSome = true)
    (er2_5 : PySem.W.findIn K (.ref c5) "__getattribute__" = some (some (.builtin "BaseException.__getattribute__")))
    (er3_5 : PySem.W.findIn K (.ref c5) "__getattr__" = some none)
    (er4_5 : PySem.W.subIn K (.ref c5) (.type "BaseException") = some true)
    (er5_5 : PySem.W.findIn K (.ref c5) "__class__" = some (some (.builtin "object.__class__")))
    (er8_5 : PySem.W.mroIn K c5 (.type "object") = some true)
    (er1_6 : (PySem.W.clsIn K c6).isSome = true)
    (er2_6 : PySem.W.findIn K (.ref c6) "__getattribute__" = some (some (.builtin "BaseException.__getattribute__")))
    (er3_6 : PySem.W.findIn K (.ref c6) "__getattr__" = some none)
    (er4_6 : PySem.W.subIn K (.ref c6) (.type "BaseException") = some true)
    (er5_6 : PySem.W.findIn K (.ref c6) "__class__" = some (some (.builtin "object.__class__")))
    (er8_6 : PySem.W.mroIn K c6 (.type "object") = some true)
    (er1_7 : (PySem.W.clsIn K c7).isSome = true)
    (er2_7 : PySem.W.findIn K (.ref c7) "__getattribute__" = some (some (.builtin "BaseException.__getattribute__")))
    (er3_7 : PySem.W.findIn K (.ref c7) "__getattr__" = some none)
    (er4_7 : PySem.W.subIn K (.ref c7) (.type "BaseException") = some true)
    (er5_7 : PySem.W.findIn K (.ref c7) "__class__" = some (some (.builtin "object.__class__")))
    (er8_7 : PySem.W.mroIn K c7 (.type "object") = some true)
    (er1_8 : (PySem.W.clsIn K c8).isSome = true)
    (er2_8 : PySem.W.findIn K (.ref c8) "__getattribute__" = some (some (.builtin "BaseException.__getattribute__")))
    (er3_8 : PySem.W.findIn K (.ref c8) "__getattr__" = some none)
    (er4_8 : PySem.W.subIn K (.ref c8) (.type "BaseException") = some true)
    (er5_8 : PySem.W.findIn K (.ref c8) "__class__" = some (some (.builtin "object.__class__")))
    (er8_8 : PySem.W.mroIn K c8 (.type "object") = some true)
    (er1_L : (PySem.W.clsIn K CL).isSome = true)
    (er2_L : PySem.W.findIn K (.ref CL) "__getattribute__" = some (some (.builtin "BaseException.__getattribute__")))
    (er3_L : PySem.W.findIn K (.ref CL) "__getattr__" = some none)
    (er4_L : PySem.W.subIn K (.ref CL) (.type "BaseException") = some true)
    (er5_L : PySem.W.findIn K (.ref CL) "__class__" = some (some (.builtin "object.__class__")))
    (er8_L : PySem.W.mroIn K CL (.type "object") = some true)
    (er1_I : (PySem.W.clsIn K cI).isSome = true)
    (er2_I : PySem.W.findIn K (.ref cI) "__getattribute__" = some (some (.builtin "BaseException.__getattribute__")))
    (er3_I : PySem.W.findIn K (.ref cI) "__getattr__" = some none)
    (er4_I : PySem.W.subIn K (.ref cI) (.type "BaseException") = some true)
    (er5_I : PySem.W.findIn K (.ref cI) "__class__" = some (some (.builtin "object.__class__")))
    (er8_I : PySem.W.mroIn K cI (.type "object") = some true)
    (er1_U : (PySem.W.clsIn K cU).isSome = true)
    (er2_U : PySem.W.findIn K (.ref cU) "__getattribute__" = some (some (.builtin "BaseException.__getattribute__")))
    (er3_U : PySem.W.findIn K (.ref cU) "__getattr__" = some none)
    (er4_U : PySem.W.subIn K (.ref cU) (.type "BaseException") = some true)
    (er5_U : PySem.W.findIn K (.ref cU) "__class__" = some (some (.builtin "object.__class__")))
    (er8_U : PySem.W.mroIn K cU (.type "object") = some true)
    (er1_T : (PySem.W.clsIn K cT).isSome = true)
    (er2_T : PySem.W.findIn K (.ref cT) "__getattribute__" = some (some (.builtin "BaseException.__getattribute__")))
    (er3_T : PySem.W.findIn K (.ref cT) "__getattr__" = some none)
    (er4_T : PySem.W.subIn K (.ref cT) (.type "BaseException") = some true)
    (er5_T : PySem.W.findIn K (.ref cT) "__class__" = some (some (.builtin "object.__class__")))
    (er8_T : PySem.W.mroIn K cT (.type "object") = some true)
    (er1_C : (PySem.W.clsIn K cC).isSome = true)
    (er2_C : PySem.W.findIn K (.ref cC) "__getattribute__" = some (some (.builtin "BaseException.__getattribute__")))
    (er3_C : PySem.W.findIn K (.ref cC) "__getattr__" = some none)
    (er4_C : PySem.W.subIn K (.ref cC) (.type "BaseException") = some true)
    (er5_C : PySem.W.findIn K (.ref cC) "__class__" = some (some (.builtin "object.__class__")))
    (er8_C : PySem.W.mroIn K cC (.type "object") = some true)
    (er1_N : (PySem.W.clsIn K cN).isSome = true)
    (er2_N : PySem.W.findIn K (.ref cN) "__getattribute__" = some (some (.builtin "BaseException.__getattribute__")))
    (er3_N : PySem.W.findIn K (.ref cN) "__getattr__" = some none)
    (er4_N : PySem.W.subIn K (.ref cN) (.type "BaseException") = some true)
    (er5_N : PySem.W.findIn K (.ref cN) "__class__" = some (some (.builtin "object.__class__")))
    (er8_N : PySem.W.mroIn K cN (.type "object") = some true)
    (er6 : PySem.W.specialIn K (.builtin "object.__class__") "__get__" = some (some (.builtin "getset_descriptor.__get__")))
    (er7 : PySem.W.takesIn K (.builtin "object.__class__") = some true)
    (m1_0 : PySem.W.kitOne K (.ref c0) (.ref CL) = some true)
    (m2_0 : PySem.W.kitOne K (.ref c0) (.type "ValueError") = some true)
    (m3_0 : PySem.W.kitOne K (.ref c0) (.type "IndexError") = some false)
    (m4_0 : PySem.W.kitOne K (.ref c0) (.type "LookupError") = some false)
    (x00 : PySem.W.kitOne K (.ref c0) (.ref c0) = some true)
    (x01 : PySem.W.kitOne K (.ref c0) (.ref c1) = some false)
    (x02 : PySem.W.kitOne K (.ref c0) (.ref c2) = some false)
    (x03 : PySem.W.kitOne K (.ref c0) (.ref c3) = some false)
    (x04 : PySem.W.kitOne K (.ref c0) (.ref c4) = some false)
    (x05 : PySem.W.kitOne K (.ref c0) (.ref c5) = some false)
    (x06 : PySem.W.kitOne K (.ref c0) (.ref c6) = some false)
    (x07 : PySem.W.kitOne K (.ref c0) (.ref c7) = some false)
    (x08 : PySem.W.kitOne K (.ref c0) (.ref c8) = some false)
    (y0 : PySem.W.kitOne K (.ref CL) (.ref c0) = some false)
    (m1_1 : PySem.W.kitOne K (.ref c1) (.ref CL) = some true)
    (m2_1 : PySem.W.kitOne K (.ref c1) (.type "ValueError") = some true)
    (m3_1 : PySem.W.kitOne K (.ref c1) (.type "IndexError") = some false)
    (m4_1 : PySem.W.kitOne K (.ref c1) (.type "LookupError") = some false)
    (x10 : PySem.W.kitOne K (.ref c1) (.ref c0) = some false)
    (x11 : PySem.W.kitOne K (.ref c1) (.ref c1) = some true)
    (x12 : PySem.W.kitOne K (.ref c1) (.ref c2) = some false)
    (x13 : PySem.W.kitOne K (.ref c1) (.ref c3) = some false)
    (x14 : PySem.W.kitOne K (.ref c1) (.ref c4) = some false)
    (x15 : PySem.W.kitOne K (.ref c1) (.ref c5) = some false)
    (x16 : PySem.W.kitOne K (.ref c1) (.ref c6) = some false)
    (x17 : PySem.W.kitOne K (.ref c1) (.ref c7) = some false)
    (x18 : PySem.W.kitOne K (.ref c1) (.ref c8) = some false)
    (y1 : PySem.W.kitOne K (.ref CL) (.ref c1) = some false)
    (m1_2 : PySem.W.kitOne K (.ref c2) (.ref CL) = some true)
    (m2_2 : PySem.W.kitOne K (.ref c2) (.type "ValueError") = some true)
    (m3_2 : PySem.W.kitOne K (.ref c2) (.type "IndexError") = some false)
    (m4_2 : PySem.W.kitOne K (.ref c2) (.type "LookupError") = some false)
    (x20 : PySem.W.kitOne K (.ref c2) (.ref c0) = some false)
    (x21 : PySem.W.kitOne K (.ref c2) (.ref c1) = some false)
    (x22 : PySem.W.kitOne K (.ref c2) (.ref c2) = some true)
    (x23 : PySem.W.kitOne K (.ref c2) (.ref c3) = some false)
    (x24 : PySem.W.kitOne K (.ref c2) (.ref c4) = some false)
    (x25 : PySem.W.kitOne K (.ref c2) (.ref c5) = some false)
    (x26 : PySem.W.kitOne K (.ref c2) (.ref c6) = some false)
    (x27 : PySem.W.kitOne K (.ref c2) (.ref c7) = some false)
    (x28 : PySem.W.kitOne K (.ref c2) (.ref c8) = some false)
    (y2 : PySem.W.kitOne K (.ref CL) (.ref c2) = some false)
    (m1_3 : PySem.W.kitOne K (.ref c3) (.ref CL) = some true)
    (m2_3 : PySem.W.kitOne K (.ref c3) (.type "ValueError") = some true)
    (m3_3 : PySem.W.kitOne K (.ref c3) (.type "IndexError") = some false)
    (m4_3 : PySem.W.kitOne K (.ref c3) (.type "LookupError") = some false)
    (x30 : PySem.W.kitOne K (.ref c3) (.ref c0) = some false)
    (x31 : PySem.W.kitOne K (.ref c3) (.ref c1) = some false)
    (x32 : PySem.W.kitOne K (.ref c3) (.ref c2) = some false)
    (x33 : PySem.W.kitOne K (.ref c3) (.ref c3) = some true)
    (x34 : PySem.W.kitOne K (.ref c3) (.ref c4) = some false)
    (x35 : PySem.W.kitOne K (.ref c3) (.ref c5) = some false)
    (x36 : PySem.W.kitOne K (.ref c3) (.ref c6) = some false)
    (x37 : PySem.W.kitOne K (.ref c3) (.ref c7) = some false)
    (x38 : PySem.W.kitOne K (.ref c3) (.ref c8) = some false)
    (y3 : PySem.W.kitOne K (.ref CL) (.ref c3) = some false)
    (m1_4 : PySem.W.kitOne K (.ref c4) (.ref CL) = some true)
    (m2_4 : PySem.W.kitOne K (.ref c4) (.type "ValueError") = some true)
    (m3_4 : PySem.W.kitOne K (.ref c4) (.type "IndexError") = some false)
    (m4_4 : PySem.W.kitOne K (.ref c4) (.type "LookupError") = some false)
    (x40 : PySem.W.kitOne K (.ref c4) (.ref c0) = some false)
    (x41 : PySem.W.kitOne K (.ref c4) (.ref c1) = some false)
    (x42 : PySem.W.kitOne K (.ref c4) (.ref c2) = some false)
    (x43 : PySem.W.kitOne K (.ref c4) (.ref c3) = some false)
    (x44 : PySem.W.kitOne K (.ref c4) (.ref c4) = some true)
    (x45 : PySem.W.kitOne K (.ref c4) (.ref c5) = some false)
    (x46 : PySem.W.kitOne K (.ref c4) (.ref c6) = some false)
    (x47 : PySem.W.kitOne K (.ref c4) (.ref c7) = some false)
    (x48 : PySem.W.kitOne K (.ref c4) (.ref c8) = some false)
    (y4 : PySem.W.kitOne K (.ref CL) (.ref c4) = some false)
    (m1_5 : PySem.W.kitOne K (.ref c5) (.ref CL) = some true)
    (m2_5 : PySem.W.kitOne K (.ref c5) (.type "ValueError") = some true)
    (m3_5 : PySem.W.kitOne K (.ref c5) (.type "IndexError") = some false)
    (m4_5 : PySem.W.kitOne K (.ref c5) (.type "LookupError") = some false)
    (x50 : PySem.W.kitOne K (.ref c5) (.ref c0) = some false)
    (x51 : PySem.W.kitOne K (.ref c5) (.ref c1) = some false)
    (x52 : PySem.W.kitOne K (.ref c5) (.ref c2) = some false)
    (x53 : PySem.W.kitOne K (.ref c5) (.ref c3) = some false)
    (x54 : PySem.W.kitOne K (.ref c5) (.ref c4) = some false)
    (x55 : PySem.W.kitOne K (.ref c5) (.ref c5) = some true)
    (x56 : PySem.W.kitOne K (.ref c5) (.ref c6) = some false)
    (x57 : PySem.W.kitOne K (.ref c5) (.ref c7) = some false)
    (x58 : PySem.W.kitOne K (.ref c5) (.ref c8) = some false)
    (y5 : PySem.W.kitOne K (.ref CL) (.ref c5) = some false)
    (m1_6 : PySem.W.kitOne K (.ref c6) (.ref CL) = some true)
    (m2_6 : PySem.W.kitOne K (.ref c6) (.type "ValueError") = some true)
    (m3_6 : PySem.W.kitOne K (.ref c6) (.type "IndexError") = some false)
    (m4_6 : PySem.W.kitOne K (.ref c6) (.type "LookupError") = some false)
    (x60 : PySem.W.kitOne K (.ref c6) (.ref c0) = some false)
    (x61 : PySem.W.kitOne K (.ref c6) (.ref c1) = some false)
    (x62 : PySem.W.kitOne K (.ref c6) (.ref c2) = some false)
    (x63 : PySem.W.kitOne K (.ref c6) (.ref c3) = some false)
    (x64 : PySem.W.kitOne K (.ref c6) (.ref c4) = some false)
    (x65 : PySem.W.kitOne K (.ref c6) (.ref c5) = some false)
    (x66 : PySem.W.kitOne K (.ref c6) (.ref c6) = some true)
    (x67 : PySem.W.kitOne K (.ref c6) (.ref c7) = some false)
    (x68 : PySem.W.kitOne K (.ref c6) (.ref c8) = some false)
    (y6 : PySem.W.kitOne K (.ref CL) (.ref c6) = some false)
    (m1_7 : PySem.W.kitOne K (.ref c7) (.ref CL) = some true)
    (m2_7 : PySem.W.kitOne K (.ref c7) (.type "ValueError") = some true)
    (m3_7 : PySem.W.kitOne K (.ref c7) (.type "IndexError") = some false)
    (m4_7 : PySem.W.kitOne K (.ref c7) (.type "LookupError") = some false)
    (x70 : PySem.W.kitOne K (.ref c7) (.ref c0) = some false)
    (x71 : PySem.W.kitOne K (.ref c7) (.ref c1) = some false)
    (x72 : PySem.W.kitOne K (.ref c7) (.ref c2) = some false)
    (x73 : PySem.W.kitOne K (.ref c7) (.ref c3) = some false)
    (x74 : PySem.W.kitOne K (.ref c7) (.ref c4) = some false)
    (x75 : PySem.W.kitOne K (.ref c7) (.ref c5) = some false)
    (x76 : PySem.W.kitOne K (.ref c7) (.ref c6) = some false)
    (x77 : PySem.W.kitOne K (.ref c7) (.ref c7) = some true)
    (x78 : PySem.W.kitOne K (.ref c7) (.ref c8) = some false)
    (y7 : PySem.W.kitOne K (.ref CL) (.ref c7) = some false)
    (m1_8 : PySem.W.kitOne K (.ref c8) (.ref CL) = some true)
    (m2_8 : PySem.W.kitOne K (.ref c8) (.type "ValueError") = some true)
    (m3_8 : PySem.W.kitOne K (.ref c8) (.type "IndexError") = some false)
    (m4_8 : PySem.W.kitOne K (.ref c8) (.type "LookupError") = some false)
    (x80 : PySem.W.kitOne K (.ref c8) (.ref c0) = some false)
    (x81 : PySem.W.kitOne K (.ref c8) (.ref c1) = some false)
    (x82 : PySem.W.kitOne K (.ref c8) (.ref c2) = some false)
    (x83 : PySem.W.kitOne K (.ref c8) (.ref c3) = some false)
    (x84 : PySem.W.kitOne K (.ref c8) (.ref c4) = some false)
    (x85 : PySem.W.kitOne K (.ref c8) (.ref c5) = some false)
    (x86 : PySem.W.kitOne K (.ref c8) (.ref c6) = some false)
    (x87 : PySem.W.kitOne K (.ref c8) (.ref c7) = some false)
    (x88 : PySem.W.kitOne K (.ref c8) (.ref c8) = some true)
    (y8 : PySem.W.kitOne K (.ref CL) (.ref c8) = some false)
    (ve : PySem.W.kitOne K (.ref CL) (.type "ValueError") = some true)
    (aCI : PySem.W.nsIn K mainGlobals "InvalidNumber" = some (some (.ref cI)))
    (xCI : K.lookup cI = some (excClassObj nmI qI cI NI bsI [.type "IndexError", .type "LookupError", .type "Exception", .type "BaseException", .type "object"] true snI subI abI colI ddI m0I m1I m2I m3I m5I "IndexError.__new__"))
    (saI : PySem.W.findIn K (.ref cI) "__setattr__" = some (some (.builtin "object.__setattr__")))
    (nbI : PySem.W.findIn K (.ref cI) "value" = some none)
    (aII : PySem.W.findIn K (.ref cI) "__init__" = some (some (.ref fI)))
    (tII : PySem.W.typeIn K (.ref fI) = some (.type "function"))
    (lII : K.lookup fI = some ⟨ocII, odII, .func (PySem.W.fnOf "__init__" "InvalidNumber.__init__" (PySem.InX.iA p1I p2I) (PySem.InX.iB q1I q2I q3I q4I) PySem.InX.iS .none .none dcII pmII anII cdII ctII), slII⟩)
    (cII : PySem.W.codeIn K cdII "InvalidNumber.__init__" = true)
    (kCI : PySem.W.keepIn K (.ref cI) = true)
    (tCI : PySem.W.typeIn K (.ref cI) = some (.type "type"))
    (hCI : PySem.W.hasDictIn K cI = true)
    (iCI : PySem.W.isClsIn K cI = true)
    (sCI : PySem.W.subIn K (.ref cI) (.ref cI) = some true)
    (vlI : PySem.W.kitOne K (.ref cI) (.ref CL) = some false)
    (aCU : PySem.W.nsIn K mainGlobals "UnknownName" = some (some (.ref cU)))
    (xCU : K.lookup cU = some (excClassObj nmU qU cU NU bsU [.type "KeyError", .type "LookupError", .type "Exception", .type "BaseException", .type "object"] true snU subU abU colU ddU m0U m1U m2U m3U m5U "LookupError.__new__"))
    (saU : PySem.W.findIn K (.ref cU) "__setattr__" = some (some (.builtin "object.__setattr__")))
    (nbU : PySem.W.findIn K (.ref cU) "name" = some none)
    (aIU : PySem.W.findIn K (.ref cU) "__init__" = some (some (.ref fU)))
    (tIU : PySem.W.typeIn K (.ref fU) = some (.type "function"))
    (lIU : K.lookup fU = some ⟨ocIU, odIU, .func (PySem.W.fnOf "__init__" "UnknownName.__init__" (PySem.UnX.iA p1U p2U) (PySem.UnX.iB q1U q2U q3U q4U) PySem.UnX.iS .none .none dcIU pmIU anIU cdIU ctIU), slIU⟩)
    (cIU : PySem.W.codeIn K cdIU "UnknownName.__init__" = true)
    (kCU : PySem.W.keepIn K (.ref cU) = true)
    (tCU : PySem.W.typeIn K (.ref cU) = some (.type "type"))
    (hCU : PySem.W.hasDictIn K cU = true)
    (iCU : PySem.W.isClsIn K cU = true)
    (sCU : PySem.W.subIn K (.ref cU) (.ref cU) = some true)
    (vlU : PySem.W.kitOne K (.ref cU) (.ref CL) = some false)
    (aCT : PySem.W.nsIn K mainGlobals "TooMany" = some (some (.ref cT)))
    (xCT : K.lookup cT = some (excClassObj nmT qT cT NT bsT [.type "OverflowError", .type "ArithmeticError", .type "Exception", .type "BaseException", .type "object"] true snT subT abT colT ddT m0T m1T m2T m3T m5T "OverflowError.__new__"))
    (saT : PySem.W.findIn K (.ref cT) "__setattr__" = some (some (.builtin "object.__setattr__")))
    (nbT : PySem.W.findIn K (.ref cT) "limit" = some none)
    (aIT : PySem.W.findIn K (.ref cT) "__init__" = some (some (.ref fT)))
    (tIT : PySem.W.typeIn K (.ref fT) = some (.type "function"))
    (lIT : K.lookup fT = some ⟨ocIT, odIT, .func (PySem.W.fnOf "__init__" "TooMany.__init__" (PySem.TmX.iA p1T p2T) (PySem.TmX.iB q1T q2T q3T q4T) PySem.TmX.iS .none .none dcIT pmIT anIT cdIT ctIT), slIT⟩)
    (cIT : PySem.W.codeIn K cdIT "TooMany.__init__" = true)
    (kCT : PySem.W.keepIn K (.ref cT) = true)
    (tCT : PySem.W.typeIn K (.ref cT) = some (.type "type"))
    (hCT : PySem.W.hasDictIn K cT = true)
    (iCT : PySem.W.isClsIn K cT = true)
    (sCT : PySem.W.subIn K (.ref cT) (.ref cT) = some true)
    (vlT : PySem.W.kitOne K (.ref cT) (.ref CL) = some false)
    (aCC : PySem.W.nsIn K mainGlobals "Chained" = some (some (.ref cC)))
    (xCC : K.lookup cC = some (excClassObj nmC qC cC NC bsC [.type "RuntimeError", .type "Exception", .type "BaseException", .type "object"] true snC subC abC colC ddC m0C m1C m2C m3C m5C "RuntimeError.__new__"))
    (saC : PySem.W.findIn K (.ref cC) "__setattr__" = some (some (.builtin "object.__setattr__")))
    (nbC : PySem.W.findIn K (.ref cC) "chain" = some none)
    (aIC : PySem.W.findIn K (.ref cC) "__init__" = some (some (.ref fC)))
    (tIC : PySem.W.typeIn K (.ref fC) = some (.type "function"))
    (lIC : K.lookup fC = some ⟨ocIC, odIC, .func (PySem.W.fnOf "__init__" "Chained.__init__" (PySem.ChX.iA p1C p2C) (PySem.ChX.iB q1C q2C q3C q4C) PySem.ChX.iS .none .none dcIC pmIC anIC cdIC ctIC), slIC⟩)
    (cIC : PySem.W.codeIn K cdIC "Chained.__init__" = true)
    (kCC : PySem.W.keepIn K (.ref cC) = true)
    (tCC : PySem.W.typeIn K (.ref cC) = some (.type "type"))
    (hCC : PySem.W.hasDictIn K cC = true)
    (iCC : PySem.W.isClsIn K cC = true)
    (sCC : PySem.W.subIn K (.ref cC) (.ref cC) = some true)
    (vlC : PySem.W.kitOne K (.ref cC) (.ref CL) = some false)
    (aCN : PySem.W.nsIn K mainGlobals "NothingToUndo" = some (some (.ref cN)))
    (xCN : K.lookup cN = some (excClassObj nmN qN cN NN bsN [.type "LookupError", .type "Exception", .type "BaseException", .type "object"] true snN subN abN colN ddN m0N m1N m2N m3N m5N "LookupError.__new__"))
    (saN : PySem.W.findIn K (.ref cN) "__setattr__" = some (some (.builtin "object.__setattr__")))
    (nbN : PySem.W.findIn K (.ref cN) "many" = some none)
    (aIN : PySem.W.findIn K (.ref cN) "__init__" = some (some (.ref fN)))
    (tIN : PySem.W.typeIn K (.ref fN) = some (.type "function"))
    (lIN : K.lookup fN = some ⟨ocIN, odIN, .func (PySem.W.fnOf "__init__" "NothingToUndo.__init__" (PySem.NuX.iA p1N p2N) (PySem.NuX.iB q1N q2N q3N q4N) PySem.NuX.iS .none .none dcIN pmIN anIN cdIN ctIN), slIN⟩)
    (cIN : PySem.W.codeIn K cdIN "NothingToUndo.__init__" = true)
    (kCN : PySem.W.keepIn K (.ref cN) = true)
    (tCN : PySem.W.typeIn K (.ref cN) = some (.type "type"))
    (hCN : PySem.W.hasDictIn K cN = true)
    (iCN : PySem.W.isClsIn K cN = true)
    (sCN : PySem.W.subIn K (.ref cN) (.ref cN) = some true)
    (vlN : PySem.W.kitOne K (.ref cN) (.ref CL) = some false)
    (kI : PySem.W.kitOne K (.ref cI) (.type "IndexError") = some true)
    (kU : PySem.W.kitOne K (.ref cU) (.type "KeyError") = some true)
    (kT : PySem.W.kitOne K (.ref cT) (.type "OverflowError") = some true)
    (kC : PySem.W.kitOne K (.ref cC) (.type "RuntimeError") = some true)
    (kN : PySem.W.kitOne K (.ref cN) (.type "LookupError") = some true)
    (iI : PySem.W.kitOne K (.ref cI) (.ref cI) = some true)
    (iU : PySem.W.kitOne K (.ref cU) (.ref cI) = some false)
    (iN : PySem.W.kitOne K (.ref cN) (.ref cI) = some false)
    (aM_ : PySem.W.nsIn K mainGlobals "_law_with_message_right" = some (some (.ref gM)))
    (lM_ : K.lookup gM = some ⟨ocM, odM, .func (PySem.W.fnOf "_law_with_message_right" "_law_with_message_right" (defArgs sMsg) (defBody sMsg) (defScope sMsg) .none kVM dcM pmM anM cdM ctM), slM⟩)
    (cM_ : PySem.W.codeIn K cdM "_law_with_message_right" = true)
    (kM_ : PySem.W.keepIn K (.ref gM) = true)
    (aK_ : PySem.W.nsIn K mainGlobals "_law_kinds" = some (some (.ref gK)))
    (lK_ : K.lookup gK = some ⟨ocK, odK, .func (PySem.W.fnOf "_law_kinds" "_law_kinds" (defArgs sKinds) (defBody sKinds) (defScope sKinds) .none kVK dcK pmK anK cdK ctK), slK⟩)
    (cK_ : PySem.W.codeIn K cdK "_law_kinds" = true)
    (kK_ : PySem.W.keepIn K (.ref gK) = true)
    (aV_ : PySem.W.nsIn K mainGlobals "_law_valued_right" = some (some (.ref gV)))
    (lV_ : K.lookup gV = some ⟨ocV, odV, .func (PySem.W.fnOf "_law_valued_right" "_law_valued_right" (defArgs sVal) (defBody sVal) (defScope sVal) .none kVV dcV pmV anV cdV ctV), slV⟩)
    (cV_ : PySem.W.codeIn K cdV "_law_valued_right" = true)
    (kV_ : PySem.W.keepIn K (.ref gV) = true)
    (aY_ : PySem.W.nsIn K mainGlobals "law" = some (some (.ref gY)))
    (lY_ : K.lookup gY = some ⟨ocY, odY, .func (PySem.W.fnOf "law" "law" (defArgs sZaw) (defBody sZaw) (defScope sZaw) .none kVY dcY pmY anY cdY ctY), slY⟩)
    (cY_ : PySem.W.codeIn K cdY "law" = true)
    (kY_ : PySem.W.keepIn K (.ref gY) = true)
    (z0 : PySem.W.nsIn K mainGlobals "isinstance" = some none)
    (z1 : PySem.W.nsIn K mainGlobals "ValueError" = some none)
    (z2 : PySem.W.nsIn K mainGlobals "IndexError" = some none)
    (z3 : PySem.W.nsIn K mainGlobals "LookupError" = some none)
    (z4 : PySem.W.nsIn K mainGlobals "KeyError" = some none)
    (z5 : PySem.W.nsIn K mainGlobals "OverflowError" = some none)
    (z6 : PySem.W.nsIn K mainGlobals "RuntimeError" = some none)
    (z7 : PySem.W.nsIn K mainGlobals "repr" = some none)
    (z8 : PySem.W.nsIn K mainGlobals "enumerate" = some none)
    (z9 : PySem.W.nsIn K mainGlobals "range" = some none)
    (z10 : PySem.W.nsIn K mainGlobals "int" = some none)
    (z11 : PySem.W.nsIn K mainGlobals "abs" = some none) :
    ∃ fd : FuncData, (∀ (s : Shared) (v : Value), BindsTo s fd ⟨[v], []⟩ [("_law_script", v)]) ∧ ∀ base : Heap, K.In base → base.Ns mainGlobals mg → FnG P w K mg base (L2.CX P w) 5 fa fd ["_law_script"] (spZaw K) := by
  have e := hfa.symm.trans (PySem.W.mg_of X G aY_)
  cases e
  have E_0 : ErC K c0 := ⟨er1_0, er2_0, er3_0, er4_0, er5_0, er6, er7, er8_0⟩
  have E_1 : ErC K c1 := ⟨er1_1, er2_1, er3_1, er4_1, er5_1, er6, er7, er8_1⟩
  have E_2 : ErC K c2 := ⟨er1_2, er2_2, er3_2, er4_2, er5_2, er6, er7, er8_2⟩
  have E_3 : ErC K c3 := ⟨er1_3, er2_3, er3_3, er4_3, er5_3, er6, er7, er8_3⟩
  have E_4 : ErC K c4 := ⟨er1_4, er2_4, er3_4, er4_4, er5_4, er6, er7, er8_4⟩
  have E_5 : ErC K c5 := ⟨er1_5, er2_5, er3_5, er4_5, er5_5, er6, er7, er8_5⟩
  have E_6 : ErC K c6 := ⟨er1_6, er2_6, er3_6, er4_6, er5_6, er6, er7, er8_6⟩
  have E_7 : ErC K c7 := ⟨er1_7, er2_7, er3_7, er4_7, er5_7, er6, er7, er8_7⟩
  have E_8 : ErC K c8 := ⟨er1_8, er2_8, er3_8, er4_8, er5_8, er6, er7, er8_8⟩
  have E_L : ErC K CL := ⟨er1_L, er2_L, er3_L, er4_L, er5_L, er6, er7, er8_L⟩
  have E_I : ErC K cI := ⟨er1_I, er2_I, er3_I, er4_I, er5_I, er6, er7, er8_I⟩
  have E_U : ErC K cU := ⟨er1_U, er2_U, er3_U, er4_U, er5_U, er6, er7, er8_U⟩
  have E_T : ErC K cT := ⟨er1_T, er2_T, er3_T, er4_T, er5_T, er6, er7, er8_T⟩
  have E_C : ErC K cC := ⟨er1_C, er2_C, er3_C, er4_C, er5_C, er6, er7, er8_C⟩
  have E_N : ErC K cN := ⟨er1_N, er2_N, er3_N, er4_N, er5_N, er6, er7, er8_N⟩
  have MI : PySem.InX.InTxt K mg cI fI :=
    { gC := PySem.W.mg_of X G aCI, cls := ⟨nmI, qI, NI, bsI, _, snI, subI, abI, colI, ddI, m0I, m1I, m2I, m3I, m5I, xCI, rfl⟩, sa := saI, ga := er2_I, gg := er3_I, noN := nbI, iC := aII, tC := tII, kC := kCI, exC := er4_I, tyC := tCI, hdC := hCI, te := exm_self er4_I iCI tCI sCI,
      fn := ⟨_, _, _, _, _, _, _, _, _, _, _, _, _, _, lII, cII⟩ }
  have VI : ValC K CL cI "value" := ⟨E_I, hCI, nbI, vlI⟩
  have MU : PySem.UnX.UnTxt K mg cU fU :=
    { gC := PySem.W.mg_of X G aCU, cls := ⟨nmU, qU, NU, bsU, _, snU, subU, abU, colU, ddU, m0U, m1U, m2U, m3U, m5U, xCU, rfl⟩, sa := saU, ga := er2_U, gg := er3_U, noN := nbU, iC := aIU, tC := tIU, kC := kCU, exC := er4_U, tyC := tCU, hdC := hCU, te := exm_self er4_U iCU tCU sCU,
      fn := ⟨_, _, _, _, _, _, _, _, _, _, _, _, _, _, lIU, cIU⟩ }
  have VU : ValC K CL cU "name" := ⟨E_U, hCU, nbU, vlU⟩
  have MT : PySem.TmX.TmTxt K mg cT fT :=
    { gC := PySem.W.mg_of X G aCT, cls := ⟨nmT, qT, NT, bsT, _, snT, subT, abT, colT, ddT, m0T, m1T, m2T, m3T, m5T, xCT, rfl⟩, sa := saT, ga := er2_T, gg := er3_T, noN := nbT, iC := aIT, tC := tIT, kC := kCT, exC := er4_T, tyC := tCT, hdC := hCT, te := exm_self er4_T iCT tCT sCT,
      fn := ⟨_, _, _, _, _, _, _, _, _, _, _, _, _, _, lIT, cIT⟩ }
  have VT : ValC K CL cT "limit" := ⟨E_T, hCT, nbT, vlT⟩
  have MC : PySem.ChX.ChTxt K mg cC fC :=
    { gC := PySem.W.mg_of X G aCC, cls := ⟨nmC, qC, NC, bsC, _, snC, subC, abC, colC, ddC, m0C, m1C, m2C, m3C, m5C, xCC, rfl⟩, sa := saC, ga := er2_C, gg := er3_C, noN := nbC, iC := aIC, tC := tIC, kC := kCC, exC := er4_C, tyC := tCC, hdC := hCC, te := exm_self er4_C iCC tCC sCC,
      fn := ⟨_, _, _, _, _, _, _, _, _, _, _, _, _, _, lIC, cIC⟩ }
  have VC : ValC K CL cC "chain" := ⟨E_C, hCC, nbC, vlC⟩
  have MN : PySem.NuX.NuTxt K mg cN fN :=
    { gC := PySem.W.mg_of X G aCN, cls := ⟨nmN, qN, NN, bsN, _, snN, subN, abN, colN, ddN, m0N, m1N, m2N, m3N, m5N, xCN, rfl⟩, sa := saN, ga := er2_N, gg := er3_N, noN := nbN, iC := aIN, tC := tIN, kC := kCN, exC := er4_N, tyC := tCN, hdC := hCN, te := exm_self er4_N iCN tCN sCN,
      fn := ⟨_, _, _, _, _, _, _, _, _, _, _, _, _, _, lIN, cIN⟩ }
  have VN : ValC K CL cN "many" := ⟨E_N, hCN, nbN, vlN⟩
  have W5 : Five K mg CL cI cU cT cC cN fI fU fT fC fN := ⟨MI, MU, MT, MC, MN, VI, VU, VT, VC, VN, kI, kU, kT, kC, kN, iI, iU, iN, PySem.W.mg_of X G aL⟩
  have N9 : Nine mg (nine c0 c1 c2 c3 c4 c5 c6 c7 c8) := ⟨PySem.W.mg_of X G a0, PySem.W.mg_of X G a1, PySem.W.mg_of X G a2, PySem.W.mg_of X G a3, PySem.W.mg_of X G a4, PySem.W.mg_of X G a5, PySem.W.mg_of X G a6, PySem.W.mg_of X G a7, PySem.W.mg_of X G a8⟩
  have Z : Zm K (nine c0 c1 c2 c3 c4 c5 c6 c7 c8) CL := ⟨of_nine ⟨E_0, m1_0, m2_0, m3_0, m4_0⟩ ⟨E_1, m1_1, m2_1, m3_1, m4_1⟩ ⟨E_2, m1_2, m2_2, m3_2, m4_2⟩ ⟨E_3, m1_3, m2_3, m3_3, m4_3⟩ ⟨E_4, m1_4, m2_4, m3_4, m4_4⟩ ⟨E_5, m1_5, m2_5, m3_5, m4_5⟩ ⟨E_6, m1_6, m2_6, m3_6, m4_6⟩ ⟨E_7, m1_7, m2_7, m3_7, m4_7⟩ ⟨E_8, m1_8, m2_8, m3_8, m4_8⟩, fun i j hi hj => of_nine (p := fun i => PySem.W.kitOne K (.ref (nine c0 c1 c2 c3 c4 c5 c6 c7 c8 i)) (.ref (nine c0 c1 c2 c3 c4 c5 c6 c7 c8 j)) = some (decide (i = j))) (of_nine (p := fun j => PySem.W.kitOne K (.ref (nine c0 c1 c2 c3 c4 c5 c6 c7 c8 0)) (.ref (nine c0 c1 c2 c3 c4 c5 c6 c7 c8 j)) = some (decide (0 = j))) x00 x01 x02 x03 x04 x05 x06 x07 x08 j hj) (of_nine (p := fun j => PySem.W.kitOne K (.ref (nine c0 c1 c2 c3 c4 c5 c6 c7 c8 1)) (.ref (nine c0 c1 c2 c3 c4 c5 c6 c7 c8 j)) = some (decide (1 = j))) x10 x11 x12 x13 x14 x15 x16 x17 x18 j hj) (of_nine (p := fun j => PySem.W.kitOne K (.ref (nine c0 c1 c2 c3 c4 c5 c6 c7 c8 2)) (.ref (nine c0 c1 c2 c3 c4 c5 c6 c7 c8 j)) = some (decide (2 = j))) x20 x21 x22 x23 x24 x25 x26 x27 x28 j hj) (of_nine (p := fun j => PySem.W.kitOne K (.ref (nine c0 c1 c2 c3 c4 c5 c6 c7 c8 3)) (.ref (nine c0 c1 c2 c3 c4 c5 c6 c7 c8 j)) = some (decide (3 = j))) x30 x31 x32 x33 x34 x35 x36 x37 x38 j hj) (of_nine (p := fun j => PySem.W.kitOne K (.ref (nine c0 c1 c2 c3 c4 c5 c6 c7 c8 4)) (.ref (nine c0 c1 c2 c3 c4 c5 c6 c7 c8 j)) = some (decide (4 = j))) x40 x41 x42 x43 x44 x45 x46 x47 x48 j hj) (of_nine (p := fun j => PySem.W.kitOne K (.ref (nine c0 c1 c2 c3 c4 c5 c6 c7 c8 5)) (.ref (nine c0 c1 c2 c3 c4 c5 c6 c7 c8 j)) = some (decide (5 = j))) x50 x51 x52 x53 x54 x55 x56 x57 x58 j hj) (of_nine (p := fun j => PySem.W.kitOne K (.ref (nine c0 c1 c2 c3 c4 c5 c6 c7 c8 6)) (.ref (nine c0 c1 c2 c3 c4 c5 c6 c7 c8 j)) = some (decide (6 = j))) x60 x61 x62 x63 x64 x65 x66 x67 x68 j hj) (of_nine (p := fun j => PySem.W.kitOne K (.ref (nine c0 c1 c2 c3 c4 c5 c6 c7 c8 7)) (.ref (nine c0 c1 c2 c3 c4 c5 c6 c7 c8 j)) = some (decide (7 = j))) x70 x71 x72 x73 x74 x75 x76 x77 x78 j hj) (of_nine (p := fun j => PySem.W.kitOne K (.ref (nine c0 c1 c2 c3 c4 c5 c6 c7 c8 8)) (.ref (nine c0 c1 c2 c3 c4 c5 c6 c7 c8 j)) = some (decide (8 = j))) x80 x81 x82 x83 x84 x85 x86 x87 x88 j hj) i hi, E_L, of_nine y0 y1 y2 y3 y4 y5 y6 y7 y8, ve⟩
  have FM := fun_mk (st := sMsg) lM_ cM_ kM_
  have bM := FM.binds (ps := ["_law_error"]) fun _ _ _ _ _ _ us hl => match us, hl with | [_], _ => rfl
  have FK := fun_mk (st := sKinds) lK_ cK_ kK_
  have bK := FK.binds (ps := ["_law_error"]) fun _ _ _ _ _ _ us hl => match us, hl with | [_], _ => rfl
  have FV := fun_mk (st := sVal) lV_ cV_ kV_
  have bV := FV.binds (ps := ["_law_thing"]) fun _ _ _ _ _ _ us hl => match us, hl with | [_], _ => rfl
  have FY := fun_mk (st := sZaw) lY_ cY_ kY_
  have T : Zs K mg (nine c0 c1 c2 c3 c4 c5 c6 c7 c8) CL gM gK gV _ _ _ := ⟨e0, k0, e1, k1, e2, k2, e3, k3, e4, k4, e5, k5, e6, k6, e7, k7, e8, k8, eL, kL, PySem.W.mg_of X G aL, FM, bM, PySem.W.mg_of X G aM_, FK, bK, PySem.W.mg_of X G aK_, FV, bV, PySem.W.mg_of X G aV_⟩
  have B : Bz mg := ⟨PySem.W.mg_none_of X G z0, PySem.W.mg_none_of X G z1, PySem.W.mg_none_of X G z2, PySem.W.mg_none_of X G z3, PySem.W.mg_none_of X G z4, PySem.W.mg_none_of X G z5, PySem.W.mg_none_of X G z6, PySem.W.mg_none_of X G z7, PySem.W.mg_none_of X G z8, PySem.W.mg_none_of X G z9, PySem.W.mg_none_of X G z10, PySem.W.mg_none_of X G z11⟩
  exact ⟨_, fun s v => .of_eq rfl, fun base _ _ => ok_zaw FY W5 N9 T Z B⟩
end Sl

set_option Elab.async false
set_option linter.all false
set_option maxRecDepth 100000
open PySem PySem.W PyProof.Rows
set_option maxHeartbeats 0 in
theorem PySem.Challenge.cw_sharedlets_k00_errors_holds : PySem.Challenge.rw_sharedlets_k00_errors.Holds := by
  w_on; o_law; k_head; (case hw => w_witness2)
  k_fill
  refine Sl.walkG (l := PySem.Challenge.rw_sharedlets_k00_errors) (n := 63) (k := 5) (x := "_law_script") (sp := fun w => Sl.spZaw _) rfl (by decide) rfl ⟨rfl, by decide, by decide⟩ (fun w h Y => PySem.W.kIn_of Y) ?F (fun w G a ns hl _ hS => ⟨a, ns, rfl, hS, by omega, fun _ => rfl⟩)
  case F =>
    intro w mg fa h KX G hmg
    refine' Sl.all_mk KX G hmg ?aL ?a0 ?a1 ?a2 ?a3 ?a4 ?a5 ?a6 ?a7 ?a8 ?e0 ?k0 ?e1 ?k1 ?e2 ?k2 ?e3 ?k3 ?e4 ?k4 ?e5 ?k5 ?e6 ?k6 ?e7 ?k7 ?e8 ?k8 ?eL ?kL ?er1_0 ?er2_0 ?er3_0 ?er4_0 ?er5_0 ?er8_0 ?er1_1 ?er2_1 ?er3_1 ?er4_1 ?er5_1 ?er8_1 ?er1_2 ?er2_2 ?er3_2 ?er4_2 ?er5_2 ?er8_2 ?er1_3 ?er2_3 ?er3_3 ?er4_3 ?er5_3 ?er8_3 ?er1_4 ?er2_4 ?er3_4 ?er4_4 ?er5_4 ?er8_4 ?er1_5 ?er2_5 ?er3_5 ?er4_5 ?er5_5 ?er8_5 ?er1_6 ?er2_6 ?er3_6 ?er4_6 ?er5_6 ?er8_6 ?er1_7 ?er2_7 ?er3_7 ?er4_7 ?er5_7 ?er8_7 ?er1_8 ?er2_8 ?er3_8 ?er4_8 ?er5_8 ?er8_8 ?er1_L ?er2_L ?er3_L ?er4_L ?er5_L ?er8_L ?er1_I ?er2_I ?er3_I ?er4_I ?er5_I ?er8_I ?er1_U ?er2_U ?er3_U ?er4_U ?er5_U ?er8_U ?er1_T ?er2_T ?er3_T ?er4_T ?er5_T ?er8_T ?er1_C ?er2_C ?er3_C ?er4_C ?er5_C ?er8_C ?er1_N ?er2_N ?er3_N ?er4_N ?er5_N ?er8_N ?er6 ?er7 ?m1_0 ?m2_0 ?m3_0 ?m4_0 ?x00 ?x01 ?x02 ?x03 ?x04 ?x05 ?x06 ?x07 ?x08 ?y0 ?m1_1 ?m2_1 ?m3_1 ?m4_1 ?x10 ?x11 ?x12 ?x13 ?x14 ?x15 ?x16 ?x17 ?x18 ?y1 ?m1_2 ?m2_2 ?m3_2 ?m4_2 ?x20 ?x21 ?x22 ?x23 ?x24 ?x25 ?x26 ?x27 ?x28 ?y2 ?m1_3 ?m2_3 ?m3_3 ?m4_3 ?x30 ?x31 ?x32 ?x33 ?x34 ?x35 ?x36 ?x37 ?x38 ?y3 ?m1_4 ?m2_4 ?m3_4 ?m4_4 ?x40 ?x41 ?x42 ?x43 ?x44 ?x45 ?x46 ?x47 ?x48 ?y4 ?m1_5 ?m2_5 ?m3_5 ?m4_5 ?x50 ?x51 ?x52 ?x53 ?x54 ?x55 ?x56 ?x57 ?x58 ?y5 ?m1_6 ?m2_6 ?m3_6 ?m4_6 ?x60 ?x61 ?x62 ?x63 ?x64 ?x65 ?x66 ?x67 ?x68 ?y6 ?m1_7 ?m2_7 ?m3_7 ?m4_7 ?x70 ?x71 ?x72 ?x73 ?x74 ?x75 ?x76 ?x77 ?x78 ?y7 ?m1_8 ?m2_8 ?m3_8 ?m4_8 ?x80 ?x81 ?x82 ?x83 ?x84 ?x85 ?x86 ?x87 ?x88 ?y8 ?ve ?aCI ?xCI ?saI ?nbI ?aII ?tII ?lII ?cII ?kCI ?tCI ?hCI ?iCI ?sCI ?vlI ?aCU ?xCU ?saU ?nbU ?aIU ?tIU ?lIU ?cIU ?kCU ?tCU ?hCU ?iCU ?sCU ?vlU ?aCT ?xCT ?saT ?nbT ?aIT ?tIT ?lIT ?cIT ?kCT ?tCT ?hCT ?iCT ?sCT ?vlT ?aCC ?xCC ?saC ?nbC ?aIC ?tIC ?lIC ?cIC ?kCC ?tCC ?hCC ?iCC ?sCC ?vlC ?aCN ?xCN ?saN ?nbN ?aIN ?tIN ?lIN ?cIN ?kCN ?tCN ?hCN ?iCN ?sCN ?vlN ?kI ?kU ?kT ?kC ?kN ?iI ?iU ?iN ?aM_ ?lM_ ?cM_ ?kM_ ?aK_ ?lK_ ?cK_ ?kK_ ?aV_ ?lV_ ?cV_ ?kV_ ?aY_ ?lY_ ?cY_ ?kY_ ?z0 ?z1 ?z2 ?z3 ?z4 ?z5 ?z6 ?z7 ?z8 ?z9 ?z10 ?z11
    (case aL => k_is)
    (case a0 => k_is)
    (case a1 => k_is)
    (case a2 => k_is)
    (case a3 => k_is)
    (case a4 => k_is)
    (case a5 => k_is)
    (case a6 => k_is)
    (case a7 => k_is)
    (case a8 => k_is)
    (case aCI => k_is)
    (case aII => k_is)
    (case aCU => k_is)
    (case aIU => k_is)
    (case aCT => k_is)
    (case aIT => k_is)
    (case aCC => k_is)
    (case aIC => k_is)
    (case aCN => k_is)
    (case aIN => k_is)
    (case aM_ => k_is)
    (case aK_ => k_is)
    (case aV_ => k_is)
    (case aY_ => k_is)
    (case e0 => first | rfl | kernel_rfl)
    (case k0 => k_is)
    (case e1 => first | rfl | kernel_rfl)
    (case k1 => k_is)
    (case e2 => first | rfl | kernel_rfl)
    (case k2 => k_is)
    (case e3 => first | rfl | kernel_rfl)
    (case k3 => k_is)
    (case e4 => first | rfl | kernel_rfl)
    (case k4 => k_is)
    (case e5 => first | rfl | kernel_rfl)
    (case k5 => k_is)
    (case e6 => first | rfl | kernel_rfl)
    (case k6 => k_is)
    (case e7 => first | rfl | kernel_rfl)
    (case k7 => k_is)
    (case e8 => first | rfl | kernel_rfl)
    (case k8 => k_is)
    (case eL => first | rfl | kernel_rfl)
    (case kL => k_is)
    (case er1_0 => rfl)
    (case er2_0 => k_is)
    (case er3_0 => k_is)
    (case er4_0 => k_is)
    (case er5_0 => k_is)
    (case er8_0 => k_is)
    (case er1_1 => rfl)
    (case er2_1 => k_is)
    (case er3_1 => k_is)
    (case er4_1 => k_is)
    (case er5_1 => k_is)
    (case er8_1 => k_is)
    (case er1_2 => rfl)
    (case er2_2 => k_is)
    (case er3_2 => k_is)
    (case er4_2 => k_is)
    (case er5_2 => k_is)
    (case er8_2 => k_is)
    (case er1_3 => rfl)
    (case er2_3 => k_is)
    (case er3_3 => k_is)
    (case er4_3 => k_is)
    (case er5_3 => k_is)
    (case er8_3 => k_is)
    (case er1_4 => rfl)
    (case er2_4 => k_is)
    (case er3_4 => k_is)
    (case er4_4 => k_is)
    (case er5_4 => k_is)
    (case er8_4 => k_is)
    (case er1_5 => rfl)
    (case er2_5 => k_is)
    (case er3_5 => k_is)
    (case er4_5 => k_is)
    (case er5_5 => k_is)
    (case er8_5 => k_is)
    (case er1_6 => rfl)
    (case er2_6 => k_is)
    (case er3_6 => k_is)
    (case er4_6 => k_is)
    (case er5_6 => k_is)
    (case er8_6 => k_is)
    (case er1_7 => rfl)
    (case er2_7 => k_is)
    (case er3_7 => k_is)
    (case er4_7 => k_is)
    (case er5_7 => k_is)
    (case er8_7 => k_is)
    (case er1_8 => rfl)
    (case er2_8 => k_is)
    (case er3_8 => k_is)
    (case er4_8 => k_is)
    (case er5_8 => k_is)
    (case er8_8 => k_is)
    (case er1_L => rfl)
    (case er2_L => k_is)
    (case er3_L => k_is)
    (case er4_L => k_is)
    (case er5_L => k_is)
    (case er8_L => k_is)
    (case er1_I => rfl)
    (case er2_I => k_is)
    (case er3_I => k_is)
    (case er4_I => k_is)
    (case er5_I => k_is)
    (case er8_I => k_is)
    (case er1_U => rfl)
    (case er2_U => k_is)
    (case er3_U => k_is)
    (case er4_U => k_is)
    (case er5_U => k_is)
    (case er8_U => k_is)
    (case er1_T => rfl)
    (case er2_T => k_is)
    (case er3_T => k_is)
    (case er4_T => k_is)
    (case er5_T => k_is)
    (case er8_T => k_is)
    (case er1_C => rfl)
    (case er2_C => k_is)
    (case er3_C => k_is)
    (case er4_C => k_is)
    (case er5_C => k_is)
    (case er8_C => k_is)
    (case er1_N => rfl)
    (case er2_N => k_is)
    (case er3_N => k_is)
    (case er4_N => k_is)
    (case er5_N => k_is)
    (case er8_N => k_is)
    (case er6 => k_is)
    (case er7 => k_is)
    (case m1_0 => rfl)
    (case m2_0 => rfl)
    (case m3_0 => rfl)
    (case m4_0 => rfl)
    (case x00 => rfl)
    (case x01 => rfl)
    (case x02 => rfl)
    (case x03 => rfl)
    (case x04 => rfl)
    (case x05 => rfl)
    (case x06 => rfl)
    (case x07 => rfl)
    (case x08 => rfl)
    (case y0 => rfl)
    (case m1_1 => rfl)
    (case m2_1 => rfl)
    (case m3_1 => rfl)
    (case m4_1 => rfl)
    (case x10 => rfl)
    (case x11 => rfl)
    (case x12 => rfl)
    (case x13 => rfl)
    (case x14 => rfl)
    (case x15 => rfl)
    (case x16 => rfl)
    (case x17 => rfl)
    (case x18 => rfl)
    (case y1 => rfl)
    (case m1_2 => rfl)
    (case m2_2 => rfl)
    (case m3_2 => rfl)
    (case m4_2 => rfl)
    (case x20 => rfl)
    (case x21 => rfl)
    (case x22 => rfl)
    (case x23 => rfl)
    (case x24 => rfl)
    (case x25 => rfl)
    (case x26 => rfl)
    (case x27 => rfl)
    (case x28 => rfl)
    (case y2 => rfl)
    (case m1_3 => rfl)
    (case m2_3 => rfl)
    (case m3_3 => rfl)
    (case m4_3 => rfl)
    (case x30 => rfl)
    (case x31 => rfl)
    (case x32 => rfl)
    (case x33 => rfl)
    (case x34 => rfl)
    (case x35 => rfl)
    (case x36 => rfl)
    (case x37 => rfl)
    (case x38 => rfl)
    (case y3 => rfl)
    (case m1_4 => rfl)
    (case m2_4 => rfl)
    (case m3_4 => rfl)
    (case m4_4 => rfl)
    (case x40 => rfl)
    (case x41 => rfl)
    (case x42 => rfl)
    (case x43 => rfl)
    (case x44 => rfl)
    (case x45 => rfl)
    (case x46 => rfl)
    (case x47 => rfl)
    (case x48 => rfl)
    (case y4 => rfl)
    (case m1_5 => rfl)
    (case m2_5 => rfl)
    (case m3_5 => rfl)
    (case m4_5 => rfl)
    (case x50 => rfl)
    (case x51 => rfl)
    (case x52 => rfl)
    (case x53 => rfl)
    (case x54 => rfl)
    (case x55 => rfl)
    (case x56 => rfl)
    (case x57 => rfl)
    (case x58 => rfl)
    (case y5 => rfl)
    (case m1_6 => rfl)
    (case m2_6 => rfl)
    (case m3_6 => rfl)
    (case m4_6 => rfl)
    (case x60 => rfl)
    (case x61 => rfl)
    (case x62 => rfl)
    (case x63 => rfl)
    (case x64 => rfl)
    (case x65 => rfl)
    (case x66 => rfl)
    (case x67 => rfl)
    (case x68 => rfl)
    (case y6 => rfl)
    (case m1_7 => rfl)
    (case m2_7 => rfl)
    (case m3_7 => rfl)
    (case m4_7 => rfl)
    (case x70 => rfl)
    (case x71 => rfl)
    (case x72 => rfl)
    (case x73 => rfl)
    (case x74 => rfl)
    (case x75 => rfl)
    (case x76 => rfl)
    (case x77 => rfl)
    (case x78 => rfl)
    (case y7 => rfl)
    (case m1_8 => rfl)
    (case m2_8 => rfl)
    (case m3_8 => rfl)
    (case m4_8 => rfl)
    (case x80 => rfl)
    (case x81 => rfl)
    (case x82 => rfl)
    (case x83 => rfl)
    (case x84 => rfl)
    (case x85 => rfl)
    (case x86 => rfl)
    (case x87 => rfl)
    (case x88 => rfl)
    (case y8 => rfl)
    (case ve => rfl)
    (case xCI => k_is)
    (case saI => k_is)
    (case nbI => k_is)
    (case tII => k_is)
    (case lII => k_is)
    (case cII => k_is)
    (case kCI => k_is)
    (case tCI => k_is)
    (case hCI => k_is)
    (case iCI => k_is)
    (case sCI => first | rfl | k_is)
    (case vlI => rfl)
    (case xCU => k_is)
    (case saU => k_is)
    (case nbU => k_is)
    (case tIU => k_is)
    (case lIU => k_is)
    (case cIU => k_is)
    (case kCU => k_is)
    (case tCU => k_is)
    (case hCU => k_is)
    (case iCU => k_is)
    (case sCU => first | rfl | k_is)
    (case vlU => rfl)
    (case xCT => k_is)
    (case saT => k_is)
    (case nbT => k_is)
    (case tIT => k_is)
    (case lIT => k_is)
    (case cIT => k_is)
    (case kCT => k_is)
    (case tCT => k_is)
    (case hCT => k_is)
    (case iCT => k_is)
    (case sCT => first | rfl | k_is)
    (case vlT => rfl)
    (case xCC => k_is)
    (case saC => k_is)
    (case nbC => k_is)
    (case tIC => k_is)
    (case lIC => k_is)
    (case cIC => k_is)
    (case kCC => k_is)
    (case tCC => k_is)
    (case hCC => k_is)
    (case iCC => k_is)
    (case sCC => first | rfl | k_is)
    (case vlC => rfl)
    (case xCN => k_is)
    (case saN => k_is)
    (case nbN => k_is)
    (case tIN => k_is)
    (case lIN => k_is)
    (case cIN => k_is)
    (case kCN => k_is)
    (case tCN => k_is)
    (case hCN => k_is)
    (case iCN => k_is)
    (case sCN => first | rfl | k_is)
    (case vlN => rfl)
    (case kI => rfl)
    (case kU => rfl)
    (case kT => rfl)
    (case kC => rfl)
    (case kN => rfl)
    (case iI => rfl)
    (case iU => rfl)
    (case iN => rfl)
    (case lM_ => k_is)
    (case cM_ => k_is)
    (case kM_ => k_is)
    (case lK_ => k_is)
    (case cK_ => k_is)
    (case kK_ => k_is)
    (case lV_ => k_is)
    (case cV_ => k_is)
    (case kV_ => k_is)
    (case lY_ => k_is)
    (case cY_ => k_is)
    (case kY_ => k_is)
    (case z0 => k_is)
    (case z1 => k_is)
    (case z2 => k_is)
    (case z3 => k_is)
    (case z4 => k_is)
    (case z5 => k_is)
    (case z6 => k_is)
    (case z7 => k_is)
    (case z8 => k_is)
    (case z9 => k_is)
    (case z10 => k_is)
    (case z11 => k_is)
