/-
  What each operation does to plain values: a function on them (aExec), with what must hold for it not to panic, the value, and what becomes of the blocks.
  Conditions: none.
-/
import Derived.Test.YtaoiffinodfcfaaAb1
import Derived.Laws.StructEq
import Derived.Laws.MakeOwn
import Derived.Orders
namespace Go.Ab
open Go.RowKit

/-- kinds of types, as far as they are looked at -/
inductive TK where
  | int (k : IntKind)
  | bool
  | str
  | struct (fs : List (Nat × Nat × TypeId))
  | slice (e : TypeId)
  | ptr (e : TypeId)
  | iface
  | map (kd : IntKind) (e : TypeId)
  | other

inductive CK where
  | int | bool | str

structure TI where
  k : TK
  size : Nat
  bytes : Nat
  zero : Option PV
  comp : Option (List CK)      -- of a struct all of whose fields are integers, bools or strings, one after the other: which
  fok : Bool       -- the types of all fields are known

def cellPV : Value → PV
  | .slice none 0 0 => .sl []
  | x => .v x
def constPV : Value → PV
  | .agg cs => .agg (cs.toList.map cellPV)
  | x => cellPV x

def mapK (k : Option TypeDesc) (e : TypeId) : TK := match k with
  | some (.int kd) => .map kd e
  | _ => .other
@[simp] theorem mapK_int (x : IntKind) (k : Option TypeDesc) (e : TypeId) : (TK.int x = mapK k e) = False := by unfold mapK; split <;> simp
@[simp] theorem mapK_bool (k : Option TypeDesc) (e : TypeId) : (TK.bool = mapK k e) = False := by unfold mapK; split <;> simp
@[simp] theorem mapK_str (k : Option TypeDesc) (e : TypeId) : (TK.str = mapK k e) = False := by unfold mapK; split <;> simp
@[simp] theorem mapK_struct (x : List (Nat × Nat × TypeId)) (k : Option TypeDesc) (e : TypeId) : (TK.struct x = mapK k e) = False := by unfold mapK; split <;> simp
@[simp] theorem mapK_slice (x : TypeId) (k : Option TypeDesc) (e : TypeId) : (TK.slice x = mapK k e) = False := by unfold mapK; split <;> simp
@[simp] theorem mapK_ptr (x : TypeId) (k : Option TypeDesc) (e : TypeId) : (TK.ptr x = mapK k e) = False := by unfold mapK; split <;> simp
@[simp] theorem mapK_iface (k : Option TypeDesc) (e : TypeId) : (TK.iface = mapK k e) = False := by unfold mapK; split <;> simp
def tkOf (P : Program) : TypeDesc → TK
  | .int k => .int k
  | .bool => .bool
  | .string => .str
  | .struct fs => .struct (fs.toList.map fun f => (f.offset, P.cellsOf f.type, f.type))
  | .slice e => .slice e
  | .pointer e => .ptr e
  | .interface _ => .iface
  | .map k e => mapK (P.underlying k) e
  | _ => .other

def simpleField (P : Program) (i : Nat) (f : Field) : Option CK :=
  match f.offset == i && f.name != "_", P.underlying f.type with
  | true, some (.int _) => some .int
  | true, some .bool => some .bool
  | true, some .string => some .str
  | _, _ => none
def simpleFields (P : Program) : Nat → List Field → Option (List CK)
  | _, [] => some []
  | i, f :: fs => match simpleField P i f, simpleFields P (i + 1) fs with
    | some c, some cs => some (c :: cs)
    | _, _ => none
def tinf (P : Program) (T : TypeId) : Option TI :=
  match P.info? T, P.underlying T with
  | some i, some d => some ⟨tkOf P d, i.size, i.bytes, i.zero.map constPV,
      (match d with | .struct fs => if (fs.size == i.size && !P.stoodInHeld T && !P.eqGuardType P.depth T) = true then simpleFields P 0 fs.toList else none | _ => none),
      (match d with | .struct fs => fs.toList.all fun f => (P.info? f.type).isSome | _ => true)⟩
  | _, _ => none
def TI.agg (t : TI) : Bool := match t.k with | .struct _ => true | _ => false
/-- not an array, a map, a channel ..: what this text looks at -/
def TI.known (t : TI) : Bool := match t.k with | .other => false | _ => true

inductive Eff where
  | none
  | new (b : Blk)
  | set (id : Id) (b : Blk)

/-- a slot's value as plain data: a block of the call's own must not be written any more -/
def closeV (m : Id → Option Blk) : SV → Option (Prop × PV)
  | .c p => some (p.ok = true, p)
  | .nil => some (True, .sl [])
  | .own id n => match m id with
    | some b => some (n = b.elems.length ∧ (b.rw = false ∨ b.elems = []), .sl b.elems)
    | none => none
  | .ptr id n i off => match m id with
    | some b => some (n = b.elems.length ∧ b.rw = false ∧ n = 1 ∧ i = 0 ∧ off = 0, .ref (b.elems.getD 0 default))
    | none => none
  | .mo id => match m id with
    | some b => (match b.mp with
      | some (kd, ks, vs) => some (b.rw = false, .mp kd ks vs)
      | none => none)
    | none => none
  | _ => none
def closeAll (m : Id → Option Blk) : List SV → Option (Prop × List PV)
  | [] => some (True, [])
  | x :: xs => match closeV m x, closeAll m xs with
    | some (p, y), some (q, ys) => some (p ∧ q, y :: ys)
    | _, _ => none

/-! links: cells of a struct in which the header of a row of the call's own stands -/
def lnkAt : List Lnk → Nat → Option (Id × Option Nat)
  | [], _ => none
  | (j, x) :: ls, i => if i = j then some x else lnkAt ls i
/-- links of a part that lies at off -/
def mvL (off : Nat) : List Lnk → List Lnk
  | [] => []
  | (j, x) :: ls => (off + j, x) :: mvL off ls
/-- links outside of a part -/
def dropL (off size : Nat) : List Lnk → List Lnk
  | [] => []
  | (j, x) :: ls => if off ≤ j ∧ j < off + size then dropL off size ls else (j, x) :: dropL off size ls
/-- links stand inside -/
def lsIn (size : Nat) : List Lnk → Prop
  | [] => True
  | (j, _) :: ls => j < size ∧ lsIn size ls
theorem lsIn_at {size : Nat} : ∀ {ls : List Lnk}, lsIn size ls → ∀ l ∈ ls, l.1 < size
  | (j, x) :: ls, h, l, hl => by
    rcases List.mem_cons.1 hl with rfl | hl
    · exact h.1
    · exact lsIn_at h.2 l hl
theorem lnkAt_mem {off : Nat} {id : Id} {n : Option Nat} : ∀ {ls : List Lnk}, lnkAt ls off = some (id, n) → (off, id, n) ∈ ls
  | (j, x) :: ls, h => by
    simp only [lnkAt] at h
    split at h
    · rename_i e; subst e; simp only [Option.some.injEq] at h; subst h; exact List.mem_cons_self
    · exact List.mem_cons_of_mem _ (lnkAt_mem h)
theorem mvL_mem {off : Nat} : ∀ {ls : List Lnk} {l : Lnk}, l ∈ mvL off ls → ∃ j x, l = (off + j, x) ∧ (j, x) ∈ ls
  | (j, x) :: ls, l, h => by
    rcases List.mem_cons.1 h with rfl | h
    · exact ⟨j, x, rfl, List.mem_cons_self⟩
    · obtain ⟨j', x', e, h'⟩ := mvL_mem h; exact ⟨j', x', e, List.mem_cons_of_mem _ h'⟩
theorem dropL_mem {off size : Nat} : ∀ {ls : List Lnk} {l : Lnk}, l ∈ dropL off size ls → l ∈ ls ∧ ¬ (off ≤ l.1 ∧ l.1 < off + size)
  | (j, x) :: ls, l, h => by
    simp only [dropL] at h
    split at h
    · obtain ⟨h1, h2⟩ := dropL_mem h; exact ⟨List.mem_cons_of_mem _ h1, h2⟩
    · rename_i e
      rcases List.mem_cons.1 h with rfl | h
      · exact ⟨List.mem_cons_self, e⟩
      · obtain ⟨h1, h2⟩ := dropL_mem h; exact ⟨List.mem_cons_of_mem _ h1, h2⟩
/-- what is stored: data, or a struct with links, or a row's header -/
def closeL (m : Id → Option Blk) : SV → Option (Prop × PV × List Lnk)
  | .st p ls => some (p.ok = true, p, ls)
  | .own id n => match m id with
    | some b => (match b.rw with
      | true => some (n = b.elems.length, .hole, [(0, id, some n)])
      | false => (match closeV m (.own id n) with
        | some (p, q) => some (p, q, [])
        | none => none))
    | none => none
  | .mo id => match m id with
    | some b => (match b.mp with
      | some (kd, ks, vs) => (match b.rw with
        | true => some (True, .hole, [(0, id, none)])
        | false => some (b.rw = false, .mp kd ks vs, []))
      | none => none)
    | none => none
  | x => match closeV m x with
    | some (p, q) => some (p, q, [])
    | none => none
def closeLs (m : Id → Option Blk) : List SV → Option (Prop × List PV × List (List Lnk))
  | [] => some (True, [], [])
  | x :: xs => match closeL m x, closeLs m xs with
    | some (p, y, l), some (q, ys, ls) => some (p ∧ q, y :: ys, l :: ls)
    | _, _ => none
/-- links of a struct that is written out -/
def fillL (place : Nat → Option (Nat × Nat)) (acc : List Lnk) : List (Nat × List Lnk) → List Lnk
  | [] => acc
  | (i, l) :: rest => match place i with
    | some (off, size) => fillL place (mvL off l ++ dropL off size acc) rest
    | none => []
/-- a struct, with links if there are any -/
def stOf (p : PV) : List Lnk → SV
  | [] => .c p
  | l :: ls => .st p (l :: ls)

/-- a part of a variable's data -/
def partPV (t : TI) (off : Nat) (x : PV) : Option (Prop × PV) :=
  match t.agg with
  | true => some (off + t.size ≤ x.cells.length, .agg ((x.cells.drop off).take t.size))
  | false => match x.cells[off]? with | some c => some (True, c) | none => none

/-- what is read of a variable of the call's own -/
def loadL (ti : TI) (b : Blk) (n i off : Nat) (p : Prop) (q : PV) : Prop × SV :=
  match ti.agg with
  | true => (match b.ls with
    | [] => (n = b.elems.length ∧ i < n ∧ p, .c q)
    | l :: ls => (match decide (off = 0 ∧ b.sz = ti.size) with
      | true => (n = b.elems.length ∧ i < n ∧ p ∧ n = 1 ∧ lsIn ti.size (l :: ls), .st q (l :: ls))
      | false => (n = b.elems.length ∧ i < n ∧ p, .c q)))
  | false => (match lnkAt b.ls (i * b.sz + off) with
    | some (id', some n') => (n = b.elems.length ∧ i < n ∧ p, .own id' n')
    | some (id', none) => (n = b.elems.length ∧ i < n ∧ p, .mo id')
    | none => (n = b.elems.length ∧ i < n ∧ p, .c q))
def aLoad (P : Program) (m : Id → Option Blk) (T : TypeId) (sv : SV) : Option (Prop × SV × Eff) :=
  match tinf P T with
  | none => none
  | some ti => if ti.known = false then none else
    match sv with
    | .ptr id n i off => match m id with
      | none => none
      | some b => match partPV ti off (b.elems.getD i default) with
        | some (p, q) => some ((loadL ti b n i off p q).1, (loadL ti b n i off p q).2, .none)
        | none => none
    | .iptr x off => match partPV ti off x with
      | some (p, q) => some (p, .c q, .none)
      | none => none
    | .c (.ref x) => match partPV ti 0 x with
      | some (p, q) => some (p, .c q, .none)
      | none => none
    | _ => none

def setCells (cs : List PV) (off : Nat) (xs : List PV) : List PV := cs.take off ++ xs ++ cs.drop (off + xs.length)
def aStore (P : Program) (m : Id → Option Blk) (T : TypeId) (sv x : SV) : Option (Prop × SV × Eff) :=
  match tinf P T, sv, closeL m x with
  | some ti, .ptr id n i off, some (q, p, ls) => match m id with
    | none => none
    | some b =>
      match decide (off = 0 ∧ b.sz = ti.size) with
      | true => some (q ∧ p.ok = true ∧ p.cells.length = ti.size ∧ n = b.elems.length ∧ i < n ∧ b.rw = true, .any, .set id { b with elems := b.elems.set i p, ls := mvL (i * b.sz) ls ++ dropL (i * b.sz) ti.size b.ls })
      | false => some (q ∧ p.ok = true ∧ p.cells.length = ti.size ∧ n = b.elems.length ∧ i < n ∧ b.rw = true ∧ off + ti.size ≤ b.sz, .any, .set id { b with elems := b.elems.set i (.agg (setCells (b.elems.getD i default).cells off p.cells)), ls := mvL (i * b.sz + off) ls ++ dropL (i * b.sz + off) ti.size b.ls })
  | _, _, _ => none

def vInt (op : BinOp) (k : IntKind) (a b : Int) : Option (Prop × Value) :=
  match op with
  | .add => some (True, .int k (k.wrap (a + b)))
  | .sub => some (True, .int k (k.wrap (a - b)))
  | .mul => some (True, .int k (k.wrap (a * b)))
  | .quo => some (b ≠ 0, .int k (k.wrap (a.tdiv b)))
  | .rem => some (b ≠ 0, .int k (a.tmod b))
  | .and | .or | .xor | .andNot => some (True, .int k (bits op k a b))
  | .eql => some (True, .bool (a == b))
  | .neq => some (True, .bool (a != b))
  | .lss => some (True, .bool (decide (a < b)))
  | .leq => some (True, .bool (decide (a ≤ b)))
  | .gtr => some (True, .bool (decide (a > b)))
  | .geq => some (True, .bool (decide (a ≥ b)))
  | _ => none
def vStr (op : BinOp) (a b : ByteArray) : Option (Prop × Value) :=
  match op with
  | .add => some (((a.size + b.size : Nat) : Int) ≤ 9223372036854775807, .string (a ++ b))
  | .eql => some (True, .bool (a.toList == b.toList))
  | .neq => some (True, .bool (!(a.toList == b.toList)))
  | .lss => some (True, .bool (Op.bytesLess a.toList b.toList))
  | .leq => some (True, .bool (Op.bytesLess a.toList b.toList || a.toList == b.toList))
  | .gtr => some (True, .bool !(Op.bytesLess a.toList b.toList || a.toList == b.toList))
  | .geq => some (True, .bool !(Op.bytesLess a.toList b.toList))
  | _ => none
/-- cells of a comparable struct, one by one -/
def eqCells : List CK → List PV → List PV → Option (Prop × Bool)
  | [], [], [] => some (True, true)
  | .int :: ks, .v (.int k a) :: xs, .v (.int k' b) :: ys => match eqCells ks xs ys with | some (p, r) => some (k = k' ∧ p, a == b && r) | none => none
  | .bool :: ks, .v (.bool a) :: xs, .v (.bool b) :: ys => match eqCells ks xs ys with | some (p, r) => some (p, a == b && r) | none => none
  | .str :: ks, .v (.string a) :: xs, .v (.string b) :: ys => match eqCells ks xs ys with | some (p, r) => some (p, a.toList == b.toList && r) | none => none
  | _, _, _ => none

/-- a row, or an address, against none -/
def aNil (op : BinOp) (pre : Prop) (isNil : Bool) : Option (Prop × SV × Eff) :=
  match op with
  | .eql => some (pre, .c (.v (.bool isNil)), .none)
  | .neq => some (pre, .c (.v (.bool (!isNil))), .none)
  | _ => none

def aBin (P : Program) (op : BinOp) (T : TypeId) (x y : SV) : Option (Prop × SV × Eff) :=
  match x, y with
  | .c (.v (.int k a)), .c (.v (.int k' b)) =>
    (match op with
    | .shl => some (0 ≤ b, .c (.v (.int k (k.wrap (a * 2 ^ (min b.toNat k.bits))))), .none)
    | .shr => some (0 ≤ b, .c (.v (.int k (a.fdiv (2 ^ (min b.toNat k.bits))))), .none)
    | _ => match vInt op k a b with
      | some (p, v) => some (k = k' ∧ p, .c (.v v), .none)
      | none => none)
  | .c (.v (.string a)), .c (.v (.string b)) => (match vStr op a b with
      | some (p, v) => some (p, .c (.v v), .none)
      | none => none)
  | .c (.v (.bool a)), .c (.v (.bool b)) => (match tinf P T with
      | some ⟨.bool, _, _, _, _, _⟩ => (match op with
        | .eql => some (True, .c (.v (.bool (a == b))), .none)
        | .neq => some (True, .c (.v (.bool (!(a == b)))), .none)
        | _ => none)
      | _ => none)
  | .c (.agg as), .c (.agg bs) => (match tinf P T with
    | some ⟨_, _, _, _, some ks, _⟩ => (match eqCells ks as bs with
      | some (p, r) => (match op with
        | .eql => some (p, .c (.v (.bool r)), .none)
        | .neq => some (p, .c (.v (.bool (!r))), .none)
        | _ => none)
      | none => none)
    | _ => none)
  | .c (.sl []), .nil => (match tinf P T with
    | some ⟨.slice _, _, _, _, _, _⟩ => (match op with
      | .eql => some (True, .anyb, .none)
      | .neq => some (True, .anyb, .none)
      | _ => none)
    | _ => none)
  | .c (.sl l), .nil => (match tinf P T with
    | some ⟨.slice _, _, _, _, _, _⟩ => aNil op (l ≠ []) false
    | _ => none)
  | .nil, .nil => (match tinf P T with
    | some ⟨.slice _, _, _, _, _, _⟩ => aNil op True true
    | _ => none)
  | .c (.ref _), .c (.v (.pointer none)) => (match tinf P T with
    | some ⟨.ptr _, _, _, _, _, _⟩ => aNil op True false
    | _ => none)
  | .c (.v (.pointer none)), .c (.v (.pointer none)) => (match tinf P T with
    | some ⟨.ptr _, _, _, _, _, _⟩ => aNil op True true
    | _ => none)
  | _, _ => none

def aUn (op : UnOp) (x : SV) : Option (Prop × SV × Eff) :=
  match op, x with
  | .not, .c (.v (.bool b)) => some (True, .c (.v (.bool (!b))), .none)
  | .neg, .c (.v (.int k n)) => some (True, .c (.v (.int k (k.wrap (0 - n)))), .none)
  | .xor, .c (.v (.int k n)) => some (True, .c (.v (.int k (bits .xor k (if k.signed then -1 else k.max) n))), .none)
  | _, _ => none

def aConv (P : Program) (src dst : TypeId) (x : SV) : Option (Prop × SV × Eff) :=
  match tinf P src, tinf P dst, x with
  | some _, some ⟨.int k, _, _, _, _, _⟩, .c (.v (.int _ n)) => some (True, .c (.v (.int k (k.wrap n))), .none)
  | some ⟨.str, _, _, _, _, _⟩, some ⟨.str, _, _, _, _, _⟩, .c (.v (.string s)) => some (True, .c (.v (.string s)), .none)
  | _, _, _ => none

/-- parts laid into a row of cells -/
def fillPV (place : Nat → Option (Nat × Nat)) (cells : List PV) : List (Nat × PV) → Option (Prop × List PV)
  | [] => some (True, cells)
  | (i, p) :: rest => match place i with
    | some (off, size) => match fillPV place (setCells cells off p.cells) rest with
      | some (q, r) => some (p.ok = true ∧ p.cells.length = size ∧ off + size ≤ cells.length ∧ q, r)
      | none => none
    | none => none

def aIdxOwn (P : Program) (T : TypeId) (b : Blk) (id : Id) (n : Nat) (i : Int) : Option (Prop × SV × Eff) :=
  match tinf P T with
  | some ⟨.slice e, _, _, _, _, _⟩ => (match tinf P e with
    | some te => some (n = b.elems.length ∧ te.size = b.sz ∧ 0 ≤ i ∧ i < (n : Int), .ptr id n i.toNat 0, .none)
    | none => none)
  | _ => none
def aIdxPc (P : Program) (T : TypeId) (b : Blk) (id : Id) (n lo len : Nat) (i : Int) : Option (Prop × SV × Eff) :=
  match tinf P T with
  | some ⟨.slice e, _, _, _, _, _⟩ => (match tinf P e with
    | some te => some (n = b.elems.length ∧ te.size = b.sz ∧ 0 ≤ i ∧ i < (len : Int), .ptr id n (lo + i.toNat) 0, .none)
    | none => none)
  | _ => none
def aIdxSl (P : Program) (T : TypeId) (l : List PV) (i : Int) : Option (Prop × SV × Eff) :=
  match tinf P T with
  | some ⟨.slice e, _, _, _, _, _⟩ => (match tinf P e with
    | some te => some ((0 ≤ i ∧ i < (l.length : Int)) ∧ (l.getD i.toNat default).cells.length = te.size, .iptr (l.getD i.toNat default) 0, .none)
    | none => none)
  | _ => none
def aIndexAddr (P : Program) (m : Id → Option Blk) (T : TypeId) (x ix : SV) : Option (Prop × SV × Eff) :=
  match ix with
  | .c (.v (.int _ i)) => (match x with
    | .own id n => (match m id with
      | some b => aIdxOwn P T b id n i
      | none => none)
    | .c (.sl l) => aIdxSl P T l i
    | .pc id n lo len => (match m id with
      | some b => aIdxPc P T b id n lo len i
      | none => none)
    | _ => none)
  | _ => none

def aLen (P : Program) (m : Id → Option Blk) (T : TypeId) (x : SV) : Option (Prop × SV × Eff) :=
  match x with
  | .c (.sl l) => (match tinf P T with
    | some ⟨.slice _, _, _, _, _, _⟩ => some (True, .c (.v (.int .i64 l.length)), .none)
    | _ => none)
  | .nil => (match tinf P T with
    | some ⟨.slice _, _, _, _, _, _⟩ => some (True, .c (.v (.int .i64 0)), .none)
    | _ => none)
  | .own id n => (match m id with
    | some b => (match tinf P T with
      | some ⟨.slice _, _, _, _, _, _⟩ => some (n = b.elems.length, .c (.v (.int .i64 n)), .none)
      | _ => none)
    | none => none)
  | .pc id n _ len => (match m id with
    | some b => (match tinf P T with
      | some ⟨.slice _, _, _, _, _, _⟩ => some (n = b.elems.length, .c (.v (.int .i64 len)), .none)
      | _ => none)
    | none => none)
  | .c (.v (.string s)) => (match tinf P T with
    | some ⟨.str, _, _, _, _, _⟩ => some (True, .c (.v (.int .i64 s.size)), .none)
    | _ => none)
  | _ => none

/-- what an append's source holds -/
def srcOf (m : Id → Option Blk) : SV → Option (Prop × List PV)
  | .nil => some (True, [])
  | .c (.sl l) => some (True, l)
  | .own id n => (match m id with
    | some b => some (n = b.elems.length, b.elems)
    | none => none)
  | .pc id n lo len => (match m id with
    | some b => some (n = b.elems.length, (b.elems.drop lo).take len)
    | none => none)
  | _ => none
def aAppOwn (m : Id → Option Blk) (e : TypeId) (te : TI) (q : Prop) (l : List PV) (id : Id) (n : Nat) : Option (Prop × SV × Eff) :=
  match m id with
  | some b => some ((id.1 ≠ 0 ∨ id.2 ≠ 0) ∧ b.ls = [] ∧ q ∧ b.T = e ∧ b.sz = te.size ∧ 0 < te.size ∧ (te.zero.map fun z => z.cells.length) = some te.size ∧ n = b.elems.length ∧ (∀ y ∈ l, y.cells.length = te.size) ∧ (b.elems.length + l.length) * te.bytes ≤ 140737488355328 ∧ b.elems.length + l.length ≤ 9223372036854775807,
      .own id (n + l.length), .set id { b with elems := b.elems ++ l })
  | none => none
def aAppend (P : Program) (m : Id → Option Blk) (nid : Id) (T : TypeId) (s x : SV) : Option (Prop × SV × Eff) :=
  match tinf P T, srcOf m x with
  | some ⟨.slice e, _, _, _, _, _⟩, some (q, l) => (match tinf P e with
    | some te => (match s with
      | .own id n => aAppOwn m e te q l id n
      | .st (.sl _) ((0, id, some n) :: _) => aAppOwn m e te q l id n
      | .nil => some (q ∧ 0 < te.size ∧ (te.zero.map fun z => z.cells.length) = some te.size ∧ (∀ y ∈ l, y.cells.length = te.size) ∧ l.length * te.bytes ≤ 140737488355328 ∧ l.length ≤ 9223372036854775807,
            .own nid l.length, .new ⟨e, te.size, l, true, [], none⟩)
      | _ => none)
    | none => none)
  | _, _ => none

/-- a piece of a row of the call's own; it begins inside -/
def aSliceOwn (P : Program) (T : TypeId) (b : Blk) (id : Id) (n : Nat) (lo hi : Option SV) : Option (Prop × SV × Eff) :=
  match tinf P T with
  | some ⟨.slice e, _, _, _, _, _⟩ => (match tinf P e, lo, hi with
    | some te, some (.c (.v (.int _ i))), none => some (n = b.elems.length ∧ te.size = b.sz ∧ 0 ≤ i ∧ i < (n : Int), .pc id n i.toNat (n - i.toNat), .none)
    | some te, none, some (.c (.v (.int _ j))) => some (n = b.elems.length ∧ te.size = b.sz ∧ 0 < n ∧ 0 ≤ j ∧ j ≤ (n : Int), .pc id n 0 j.toNat, .none)
    | some te, some (.c (.v (.int _ i))), some (.c (.v (.int _ j))) => some (n = b.elems.length ∧ te.size = b.sz ∧ 0 ≤ i ∧ i < (n : Int) ∧ i ≤ j ∧ j ≤ (n : Int), .pc id n i.toNat (j.toNat - i.toNat), .none)
    | _, _, _ => none)
  | _ => none
def aSlice (P : Program) (m : Id → Option Blk) (T : TypeId) (x : SV) (lo hi : Option SV) : Option (Prop × SV × Eff) :=
  match tinf P T, x with
  | some ⟨.slice e, _, _, _, _, _⟩, .c (.sl l) => (match tinf P e, lo, hi with
    | some _, none, none => some (True, .c (.sl l), .none)
    | some te, some (.c (.v (.int _ i))), none => some (0 ≤ i ∧ i ≤ (l.length : Int) ∧ (∀ y ∈ l, y.cells.length = te.size), .c (.sl (l.drop i.toNat)), .none)
    | some _, none, some (.c (.v (.int _ j))) => some (0 ≤ j ∧ j ≤ (l.length : Int), .c (.sl (l.take j.toNat)), .none)
    | some te, some (.c (.v (.int _ i))), some (.c (.v (.int _ j))) => some (0 ≤ i ∧ i ≤ j ∧ j ≤ (l.length : Int) ∧ (∀ y ∈ l, y.cells.length = te.size), .c (.sl ((l.take j.toNat).drop i.toNat)), .none)
    | _, _, _ => none)
  | some ⟨.str, _, _, _, _, _⟩, .c (.v (.string s)) => (match lo, hi with
    | none, none => some (True, .c (.v (.string (s.extract 0 s.size))), .none)
    | some (.c (.v (.int _ i))), none => some (0 ≤ i ∧ i ≤ (s.size : Int), .c (.v (.string (s.extract i.toNat s.size))), .none)
    | none, some (.c (.v (.int _ j))) => some (0 ≤ j ∧ j ≤ (s.size : Int), .c (.v (.string (s.extract 0 j.toNat))), .none)
    | some (.c (.v (.int _ i))), some (.c (.v (.int _ j))) => some (0 ≤ i ∧ i ≤ j ∧ j ≤ (s.size : Int), .c (.v (.string (s.extract i.toNat j.toNat))), .none)
    | _, _ => none)
  | _, .own id n => (match m id with
    | some b => aSliceOwn P T b id n lo hi
    | none => none)
  | _, _ => none

def aFieldAddr (P : Program) (m : Id → Option Blk) (T : TypeId) (x : SV) (f : Nat) : Option (Prop × SV × Eff) :=
  match tinf P T with
  | some ⟨.struct fs, _, _, _, _, _⟩ => (match fs[f]? with
    | some (off, size, _) => (match x with
      | .ptr id n i o => (match m id with
        | some b => some (n = b.elems.length ∧ 0 < size, .ptr id n i (o + off), .none)
        | none => none)
      | .iptr y o => some (0 < size, .iptr y (o + off), .none)
      | .c (.ref y) => some (0 < size, .iptr y off, .none)
      | _ => none)
    | none => none)
  | _ => none
/-! maps with whole numbers as keys -/
def atM : List Int → List PV → PV → Int → PV
  | k :: ks, v :: vs, z, a => if a = k then v else atM ks vs z a
  | _, _, z, _ => z
def hasM : List Int → Int → Bool
  | k :: ks, a => a == k || hasM ks a
  | [], _ => false
def insM : List Int → List PV → Int → PV → List PV
  | k :: ks, v :: vs, a, x => if a = k then x :: vs else v :: insM ks vs a x
  | _, _, _, x => [x]
def keyM (ks : List Int) (a : Int) : List Int := if hasM ks a then ks else ks ++ [a]
def aLookup (P : Program) (m : Id → Option Blk) (T : TypeId) (x k : SV) : Option (Prop × SV × Eff) :=
  match tinf P T, k with
  | some ⟨.map kd e, _, _, _, _, _⟩, .c (.v (.int kd' a)) => (match tinf P e with
    | some ⟨_, _, _, some z, _, _⟩ => (match x with
      | .mo id => (match m id with
        | some b => (match b.mp with
          | some (kd2, ks, vs) => some (kd' = kd ∧ kd2 = kd ∧ z.cells.all PV.one = true, .c (atM ks vs z a), .none)
          | none => none)
        | none => none)
      | .c (.mp kd2 ks vs) => some (kd' = kd ∧ kd2 = kd ∧ z.cells.all PV.one = true, .c (atM ks vs z a), .none)
      | _ => none)
    | _ => none)
  | _, _ => none
def aMapUp (P : Program) (m : Id → Option Blk) (T : TypeId) (x k v : SV) : Option (Prop × SV × Eff) :=
  match tinf P T, k, closeV m v with
  | some ⟨.map kd _, _, _, _, _, _⟩, .c (.v (.int kd' a)), some (q, y) => (match x with
      | .mo id => (match m id with
        | some b => (match b.mp with
          | some (kd2, ks, vs) => some (q ∧ kd' = kd ∧ kd2 = kd ∧ b.rw = true ∧ b.ls = [], .any, .set id { b with mp := some (kd2, keyM ks a, insM ks vs a y) })
          | none => none)
        | none => none)
      | _ => none)
  | _, _, _ => none
def aField (P : Program) (T : TypeId) (x : SV) (f : Nat) : Option (Prop × SV × Eff) :=
  match tinf P T, x with
  | some ⟨.struct fs, _, _, _, _, _⟩, .c (.agg cs) => (match fs[f]? with
    | some (off, _, ty) => (match tinf P ty with
      | some ti => if ti.known = false then none else (match partPV ti off (.agg cs) with
        | some (p, q) => some (p, .c q, .none)
        | none => none)
      | none => none)
    | none => none)
  | _, _ => none

/-- the operations that are no calls of Go functions -/
def aExec (P : Program) (op : Op) (ev : Operand → SV) (m : Id → Option Blk) (nid : Id) : Option (Prop × SV × Eff) :=
  match op with
  | .move x | .assign x => some (True, ev x, .none)
  | .pick c a b => (match ev c with
    | .c (.v (.bool t)) => (match ev a, ev b with
      | .c (.v (.bool x)), .c (.v (.bool y)) => some (True, .c (.v (.bool (bif t then x else y))), .none)
      | x, y => some (True, (bif t then x else y), .none))
    | _ => none)
  | .alloc T => (match tinf P T with
    | some ⟨_, size, _, some z, _, _⟩ => some (z.ok = true ∧ z.cells.all PV.one = true ∧ z.cells.length = size, .ptr nid 1 0 0, .new ⟨T, size, [z], true, [], none⟩)
    | _ => none)
  | .box T x => (match closeL m (ev x) with
    | some (q, p, ls) => some (q ∧ p.ok = true, .ptr nid 1 0 0, .new ⟨T, p.cells.length, [p], true, ls, none⟩)
    | none => none)
  | .build T parts => (match tinf P T with
    | some ⟨.struct fs, _, _, some z, _, fok⟩ => (match closeLs m (parts.toList.map fun (_, x) => ev x) with
      | some (q, ps, ls) => (match fillPV (fun i => (fs[i]?).map fun f => (f.1, f.2.1)) z.cells ((parts.toList.map (·.1)).zip ps) with
        | some (r, cs) => some (fok = true ∧ q ∧ r ∧ z.cells.all PV.one = true, stOf (.agg cs) (fillL (fun i => (fs[i]?).map fun f => (f.1, f.2.1)) [] ((parts.toList.map (·.1)).zip ls)), .none)
        | none => none)
      | none => none)
    | _ => none)
  | .buildSlice T len parts => (match tinf P T with
    | some ⟨.slice e, _, _, _, _, _⟩ => (match tinf P e, closeAll m (parts.toList.map fun (_, x) => ev x) with
      | some te, some (q, ps) => if parts.toList.map (·.1) = List.range len then
          some (q ∧ 0 < te.size ∧ (∀ p ∈ ps, p.ok = true ∧ p.cells.length = te.size) ∧ ps.length * te.size ≤ 16777216 ∧ (te.zero.map fun z => z.cells.all PV.one) = some true, .own nid ps.length, .new ⟨e, te.size, ps, ps.isEmpty, [], none⟩) else none
      | _, _ => none)
    | _ => none)
  | .load T a => aLoad P m T (ev a)
  | .store T a x => aStore P m T (ev a) (ev x)
  | .nilCheck x => (match ev x with
    | .ptr id n i off => (match m id with
      | some b => some (n = b.elems.length ∧ 0 < n, .ptr id n i off, .none)
      | none => none)
    | .iptr y off => some (True, .iptr y off, .none)
    | .c (.ref y) => some (True, .c (.ref y), .none)
    | _ => none)
  | .binOp op T x y _ => aBin P op T (ev x) (ev y)
  | .unOp op _ x => aUn op (ev x)
  | .convert src dst x => aConv P src dst (ev x)
  | .makeSlice T l c => (match tinf P T, ev l, ev c with
    | some ⟨.slice e, _, _, _, _, _⟩, .c (.v (.int _ a)), .c (.v (.int _ b)) => (match tinf P e with
      | some ⟨_, size, bytes, some z, _, _⟩ => some (z.ok = true ∧ z.cells.all PV.one = true ∧ 0 < size ∧ z.cells.length = size ∧ 0 ≤ a ∧ a ≤ b ∧ b ≤ 9223372036854775807 ∧ bytes * b ≤ 281474976710656, .own nid a.toNat, .new ⟨e, size, List.replicate a.toNat z, true, [], none⟩)
      | _ => none)
    | _, _, _ => none)
  | .slice T x lo hi none => aSlice P m T (ev x) (lo.map ev) (hi.map ev)
  | .fieldAddr T x f => aFieldAddr P m T (ev x) f
  | .field T x f => aField P T (ev x) f
  | .indexAddr T x ix => aIndexAddr P m T (ev x) (ev ix)
  | .index T x ix => (match tinf P T, ev x, ev ix with
    | some ⟨.str, _, _, _, _, _⟩, .c (.v (.string s)), .c (.v (.int _ i)) => some (0 ≤ i ∧ i < (s.size : Int), .c (.v (.int .u8 ((s.data.toList.getD i.toNat 0).toNat : Int))), .none)
    | _, _, _ => none)
  | .extract t i => (match ev t with
    | .c (.tup l) => (match l[i]? with
      | some p => some (True, .c p, .none)
      | none => none)
    | _ => none)
  | .makeInterface T x => (match tinf P T, closeV m (ev x) with
    | some ti, some (q, p) => (match ti.k with | .iface => none | _ => some (q, .c (.iface T p), .none))
    | _, _ => none)
  | .makeMap T none => (match tinf P T with
    | some ⟨.map kd _, _, _, _, _, _⟩ => some (True, .mo nid, .new ⟨T, 1, [], true, [], some (kd, [], [])⟩)
    | _ => none)
  | .insert T x k v => aMapUp P m T (ev x) (ev k) (ev v)
  | .mapUpdate T x k v => aMapUp P m T (ev x) (ev k) (ev v)
  | .lookup T x k false => aLookup P m T (ev x) (ev k)
  | .makeFunc (.func k) first captured => (match first.toList, closeAll m (captured.toList.map ev) with
    | [], some (q, ps) => some (q, .c (.fn k ps), .none)
    | _, _ => none)
  | .call ⟨.builtin .len, args, ts⟩ => (match args.toList, ts.toList with
    | [x], [T] => aLen P m T (ev x)
    | _, _ => none)
  | .call ⟨.builtin .append, args, ts⟩ => (match args.toList, ts.toList with
    | [s, x], [T, T'] => if T = T' then aAppend P m nid T (ev s) (ev x) else none
    | _, _ => none)
  | .call ⟨.builtin .min, args, _⟩ => (match args.toList.map ev with
    | [.c (.v (.int k a)), .c (.v (.int _ b))] => some (True, .c (.v (.int k (if b < a then b else a))), .none)
    | _ => none)
  | .call ⟨.builtin .max, args, _⟩ => (match args.toList.map ev with
    | [.c (.v (.int k a)), .c (.v (.int _ b))] => some (True, .c (.v (.int k (if b > a then b else a))), .none)
    | _ => none)
  | _ => none

def ASt.ev (s : ASt) : Operand → SV
  | .tmp t => s.t t
  | .const v => (match v with
    | .slice none 0 0 => .nil
    | .agg _ => .any
    | v => .c (.v v))
  | .func f => .c (.v (.func (.func f) #[] #[]))
  | _ => .any
def ASt.eff (s : ASt) (nid : Id) : Eff → ASt
  | .none => s
  | .new b => { s with m := updM s.m nid (some b), g := upd s.g nid.1 (s.g nid.1 + 1) }
  | .set id b => { s with m := updM s.m id (some b) }
end Go.Ab
