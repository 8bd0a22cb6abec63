/-
  Layer 12 (file): the mathematics of a file.
-/
import Derived.Test.YteepemibmjpnfaaAid
namespace Go.Proofs.Yteepemibmjpnfaa
set_option maxRecDepth 10000
open Go.RowKit

/-- A file: how many bytes at most, the kept ones, the loose ones. -/
structure Fil where
  most : Int
  kept : ByteArray
  loose : ByteArray

/-- A file's cells. -/
def filV (f : Fil) : Array Value := #[.int .i64 f.most, .string f.kept, .string f.loose]
def Fil.v (f : Fil) : Value := .agg (filV f)
theorem fil_one (f : Fil) : (filV f).all (·.oneCell') = true := by simp [filV, Value.oneCell']
/-- No file. -/
def Fi.no : Fil := ⟨0, ⟨#[]⟩, ⟨#[]⟩⟩
def Fi.is (f : Fil) : Bool := decide (1 ≤ f.most ∧ f.most ≤ 4000 ∧ (f.kept.size : Int) + f.loose.size ≤ f.most)
def Fi.read (f : Fil) : ByteArray := f.kept ++ f.loose
def Fi.newE (n : Int) : Int := if 1 ≤ n ∧ n ≤ 4000 then 0 else 1
def Fi.new (n : Int) : Fil := if 1 ≤ n ∧ n ≤ 4000 then ⟨n, ⟨#[]⟩, ⟨#[]⟩⟩ else Fi.no
def Fi.badE (f : Fil) : Int := if Fi.is f then 0 else 1
def Fi.sync (f : Fil) : Fil := if Fi.is f then ⟨f.most, Fi.read f, ⟨#[]⟩⟩ else Fi.no
/-- How many loose bytes a crash leaves. -/
def Fi.many (f : Fil) (n : Int) : Nat := min n.toNat f.loose.size
def Fi.crash (f : Fil) (n : Int) : Fil := if Fi.is f then ⟨f.most, f.kept ++ f.loose.extract 0 (Fi.many f n), ⟨#[]⟩⟩ else Fi.no
def Fi.cutOk (f : Fil) (n : Int) : Bool := Fi.is f && decide (0 ≤ n ∧ n ≤ (f.kept.size : Int) + f.loose.size)
def Fi.cut (f : Fil) (n : Int) : Fil := if Fi.cutOk f n then ⟨f.most, (Fi.read f).extract 0 n.toNat, ⟨#[]⟩⟩ else Fi.no
def Fi.cutE (f : Fil) (n : Int) : Int := if Fi.cutOk f n then 0 else 1
/-- All parts, one behind the other. -/
def Fi.all (ss : List ByteArray) : ByteArray := strOf (ss.map bl).flatten
def Fi.addE (f : Fil) (ss : List ByteArray) : Int := if Fi.is f then (if (f.kept.size : Int) + f.loose.size + (Fi.all ss).size ≤ f.most then 0 else 81) else 1
def Fi.add (f : Fil) (ss : List ByteArray) : Fil := if Fi.addE f ss = 0 then ⟨f.most, f.kept, f.loose ++ Fi.all ss⟩ else Fi.no
/-- As many bytes as are looked at. -/
def Fi.small (f : Fil) : Prop := f.kept.size ≤ 9000 ∧ f.loose.size ≤ 9000

theorem Fi.read_size (f : Fil) : (Fi.read f).size = f.kept.size + f.loose.size := by unfold Fi.read; exact ByteArray.size_append
theorem Fi.all_nil : Fi.all [] = ⟨#[]⟩ := rfl
theorem Fi.all_snoc (ss : List ByteArray) (s : ByteArray) : Fi.all (ss ++ [s]) = Fi.all ss ++ s := by
  unfold Fi.all; rw [List.map_append, List.flatten_append, strOf_append]; simp
theorem Fi.all_append (ss ts : List ByteArray) : Fi.all (ss ++ ts) = Fi.all ss ++ Fi.all ts := by
  unfold Fi.all; rw [List.map_append, List.flatten_append, strs_append]
theorem Fi.all_size_snoc (ss : List ByteArray) (s : ByteArray) : (Fi.all (ss ++ [s])).size = (Fi.all ss).size + s.size := by rw [Fi.all_snoc, ByteArray.size_append]
theorem Fi.all_take_le (ss : List ByteArray) (k : Nat) : (Fi.all (ss.take k)).size ≤ (Fi.all ss).size := by
  conv => rhs; rw [← List.take_append_drop k ss]
  rw [Fi.all_append, ByteArray.size_append]; omega
theorem ba_nil (s : ByteArray) : s ++ (⟨#[]⟩ : ByteArray) = s := by apply bl_inj; rw [bl_append]; show bl s ++ [] = _; simp
theorem ba_assoc (a b c : ByteArray) : a ++ b ++ c = a ++ (b ++ c) := by apply bl_inj; simp [bl_append]
theorem ba_extract0 (s : ByteArray) : s.extract 0 0 = ⟨#[]⟩ := by apply bl_inj; rw [bl_extract_to _ _ (Nat.zero_le _)]; rfl
theorem ba_extract_all (s : ByteArray) : s.extract 0 s.size = s := by apply bl_inj; rw [bl_extract_to _ _ (Nat.le_refl _)]; show (bl s).take (bl s).length = _; simp
theorem Fi.no_read : Fi.read Fi.no = ⟨#[]⟩ := by unfold Fi.read Fi.no; exact ba_nil _
theorem Fi.is_small {f : Fil} (h : Fi.is f = true) : 1 ≤ f.most ∧ f.most ≤ 4000 ∧ (f.kept.size : Int) + f.loose.size ≤ f.most := of_decide_eq_true h
end Go.Proofs.Yteepemibmjpnfaa
