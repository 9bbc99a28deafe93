package schema

import (
	"math"
	"math/rand"
	"slices"
	"testing"
	"unsafe"

	"dovetail/api"
)

// checkFind holds Find and Paths of a schema against the chapter's words: each path of it is found, and none beside them.
func checkFind(t *testing.T, s api.Schema) {
	t.Helper()
	all := plainList(s)
	deepest := 0
	for _, p := range all {
		deepest = max(deepest, len(p.path))
		if f, is := Find(s, p.path); !is || !sameField(f, p.f) {
			t.Fatalf("%v: %+v, %v", p.path, f, is)
		}
		for _, none := range []int{-1, len(p.f.Fields), len(p.f.Fields) + 1, math.MinInt, math.MaxInt} {
			wantNone(t, s, append(slices.Clone(p.path), none))
			wantNone(t, s, append(slices.Clone(p.path), none, 0))
		}
	}
	for _, path := range [][]int{nil, {}, {-1}, {len(s.Fields)}, {len(s.Fields), 0}, {math.MinInt}, {math.MaxInt}, {-1, 0}} {
		wantNone(t, s, path)
	}
	paths := Paths(s)
	if len(all) > 64 || deepest > 16 {
		if len(paths) != 0 {
			t.Fatalf("%d paths of %d fields, %d deep", len(paths), len(all), deepest)
		}
		return
	}
	if !slices.EqualFunc(paths, all, func(path []int, p placed) bool { return slices.Equal(path, p.path) }) {
		t.Fatalf("%+v: %v", s, paths)
	}
}

// wantNone: no field is at that path.
func wantNone(t *testing.T, s api.Schema, path []int) {
	t.Helper()
	if f, is := Find(s, path); is || !sameField(f, api.Field{}) {
		t.Errorf("%v: %+v, %v", path, f, is)
	}
}

// TestFind is P11.2: of schemas of every shape, those that may not be among them.
func TestFind(t *testing.T) {
	r := rand.New(rand.NewSource(112))
	for range 1000 {
		s := rightSchema(r)
		for range 5 {
			checkFind(t, s)
			s = changed(r, s)
		}
	}
	checkFind(t, api.Schema{})
	checkFind(t, api.Schema{Fields: []api.Field{}})
	checkFind(t, of(boolField("a")))
}

// TestFindWhatever is P11.2: those within a field are its Fields, whatever its Kind, and whatever else may not be.
func TestFindWhatever(t *testing.T) {
	for k := range api.Kind(10) {
		checkFind(t, api.Schema{Limit: -1, Fields: []api.Field{{Kind: k, Fields: []api.Field{{Name: "A", Kind: k, Fields: []api.Field{{Most: -1}, {Nulls: 9}}}, {Name: "A"}}}, {Kind: k}}})
	}
}

// TestFindEdges is P11.2: 64 and 65 fields, paths of 16 and 17 places.
func TestFindEdges(t *testing.T) {
	for _, n := range []int{1, 63, 64, 65, 66, 200} {
		checkFind(t, of(many(n)...))
		checkFind(t, of(tupleField("t", many(n-1)...)))
		checkFind(t, of(tupleField("t", many(n/2)...), api.Field{Kind: api.Bool, Fields: many(max(0, n-n/2-2))}))
	}
	for _, n := range []int{1, 15, 16, 17, 18, 40} {
		checkFind(t, of(nested(n, boolField("a"))))
		checkFind(t, of(boolField("a"), nested(n, api.Field{Kind: 9}), boolField("a")))
	}
	if n := len(Paths(of(many(64)...))); n != 64 {
		t.Errorf("%d paths of 64 fields", n)
	}
	if n := len(Paths(of(many(65)...))); n != 0 {
		t.Errorf("%d paths of 65 fields", n)
	}
	if n := len(Paths(of(nested(16, boolField("a"))))); n != 16 {
		t.Errorf("%d paths, 16 deep", n)
	}
	if n := len(Paths(of(nested(17, boolField("a"))))); n != 0 {
		t.Errorf("%d paths, 17 deep", n)
	}
}

// TestFindGreat is P11.2 with R6: fields very deep and very many are found as well.
func TestFindGreat(t *testing.T) {
	deep := of(nested(1<<16, boolField("last")))
	if f, is := Find(deep, make([]int, 1<<16)); !is || f.Name != "last" {
		t.Errorf("%s, %v", f.Name, is)
	}
	f, is := Find(deep, []int{0})
	for range 1<<16 - 1 {
		if !is || len(f.Fields) != 1 {
			t.Fatal("not all that stands within it came out")
		}
		f = f.Fields[0]
	}
	if f.Name != "last" {
		t.Error(f.Name)
	}
	wide := of(many(1 << 16)...)
	if f, is := Find(wide, []int{1<<16 - 1}); !is || f.Name != "f65535" {
		t.Errorf("%s, %v", f.Name, is)
	}
	if len(Paths(wide)) != 0 || len(Paths(deep)) != 0 {
		t.Error("paths")
	}
}

// TestFindExample is what the chapter's second example has.
func TestFindExample(t *testing.T) {
	y := api.Field{Name: "y", Kind: api.Text, Collate: api.Collate{Strength: 2, Back: true}}
	s := of(tupleField("t", boolField("x"), y))
	if f, is := Find(s, []int{0, 1}); !is || !sameField(f, y) {
		t.Errorf("%+v, %v", f, is)
	}
	if l := Paths(s); len(l) != 3 || !slices.Equal(l[0], []int{0}) || !slices.Equal(l[1], []int{0, 0}) || !slices.Equal(l[2], []int{0, 1}) {
		t.Error(l)
	}
}

// TestFindMemory is R2: what Find and Paths give shares no memory with the schema, nor with one another.
func TestFindMemory(t *testing.T) {
	make1 := func() api.Schema {
		return of(tupleField("t", tupleField("u", boolField("a"), boolField("b")), boolField("c")))
	}
	s := make1()
	f, _ := Find(s, []int{0})
	f.Fields[0].Name = "other"
	f.Fields[0].Fields[1].Name = "other"
	_ = append(f.Fields[0].Fields[:1], boolField("other"))
	if !same(s, make1()) {
		t.Error("what came out was the schema's own")
	}
	f, _ = Find(s, []int{0})
	s.Fields[0].Fields[0].Fields[0].Name = "other"
	if g, _ := Find(make1(), []int{0}); !sameField(f, g) {
		t.Error("what came out changed with the schema")
	}
	memory := []byte("name")
	s = of(tupleField("t", api.Field{Name: unsafe.String(&memory[0], 4), Low: api.Num{Mag: unsafe.String(&memory[0], 3)}, High: api.Num{Mag: unsafe.String(&memory[0], 2)}}))
	f, _ = Find(s, []int{0})
	copy(memory, "????")
	if g := f.Fields[0]; g.Name != "name" || g.Low.Mag != "nam" || g.High.Mag != "na" {
		t.Errorf("%+v", f)
	}
	paths := Paths(make1())
	for i := range paths {
		for k := range paths[i] {
			paths[i][k] = 100 + i
		}
		_ = append(paths[i], 100+i)
	}
	for i, p := range paths {
		if slices.ContainsFunc(p, func(n int) bool { return n != 100+i }) {
			t.Errorf("paths share memory: %v", paths)
		}
	}
	path := []int{0, 1}
	if _, is := Find(make1(), path); !is || !slices.Equal(path, []int{0, 1}) {
		t.Error(path)
	}
}

// TestWrittenInto is R2: no call writes into the lists that it is handed, nor into their spare room; and a Fault is another one each time.
func TestWrittenInto(t *testing.T) {
	r := rand.New(rand.NewSource(1112))
	for range 300 {
		s := rightSchema(r)
		for range 3 {
			in := withRoom(s)
			Check(in)
			Print(in)
			Paths(in)
			for _, p := range plainList(in) {
				Find(in, p.path)
			}
			if !same(in, s) || !roomIsLeft(in.Fields) {
				t.Fatalf("%+v: written into", s)
			}
			a, b := Check(s), Check(s)
			if a != nil && a == b {
				t.Error("one Fault twice")
			}
			if a != nil && len(a.(*api.Fault).Path) > 0 {
				a.(*api.Fault).Path[0] = -9
				if c := Check(s).(*api.Fault); c.Path[0] == -9 || b.(*api.Fault).Path[0] == -9 {
					t.Error("Faults share a path")
				}
			}
			s = changed(r, s)
		}
	}
}

// withRoom is a schema in whose lists another field lies behind the last one, in their spare room.
func withRoom(s api.Schema) api.Schema {
	s = copyOf(s)
	var more func(l []api.Field) []api.Field
	more = func(l []api.Field) []api.Field {
		for i := range l {
			l[i].Fields = more(l[i].Fields)
		}
		return append(l, boolField("spare"))[:len(l)]
	}
	s.Fields = more(s.Fields)
	return s
}

// roomIsLeft tells whether that field lies there still.
func roomIsLeft(l []api.Field) bool {
	for _, f := range l {
		if !roomIsLeft(f.Fields) {
			return false
		}
	}
	return sameField(l[:len(l)+1][len(l)], boolField("spare"))
}
