package tree_test

import (
	"bytes"
	"fmt"
	"math/rand"
	"slices"
	"strings"
	"testing"
	"unsafe"

	"shunt/api"
	"shunt/tree"
)

// files: paths and what stands there, by turns.
func files(l ...string) []api.File {
	var out []api.File
	for i := 0; i+1 < len(l); i += 2 {
		out = append(out, api.File{Path: l[i], Blob: l[i+1]})
	}
	return out
}

// edits: path, old, new, by turns.
func edits(l ...string) []api.Edit {
	var out []api.Edit
	for i := 0; i+2 < len(l); i += 3 {
		out = append(out, api.Edit{Path: l[i], Old: l[i+1], New: l[i+2]})
	}
	return out
}

// check asks Apply once, and also that what was handed in is as it was.
func check(t *testing.T, name string, f []api.File, e []api.Edit, want []api.File, wantErr api.Errno) {
	t.Helper()
	f2, e2 := slices.Clone(f), slices.Clone(e)
	got, err := tree.Apply(f2, e2)
	if err != wantErr || !slices.Equal(got, want) {
		t.Errorf("%s: Apply(%q, %q) = %q, %d, want %q, %d", name, f, e, got, err, want, wantErr)
	}
	if err != api.OK && got != nil {
		t.Errorf("P1: %s: with error %d the list is %q, want nil", name, err, got)
	}
	if !slices.Equal(f2, f) || !slices.Equal(e2, e) {
		t.Errorf("P2: %s: what was handed in has become %q, %q", name, f2, e2)
	}
}

// text is of n bytes.
func text(n int) string { return strings.Repeat("t", n) }

// lengths: of texts, and whether one that must not be "" may have it, and whether any other may.
var lengths = []struct {
	bytes         int
	filled, atAll bool
}{
	{0, false, true}, {1, true, true}, {api.MaxText, true, true}, {api.MaxText + 1, false, false}, {256, false, false}, {257, false, false}, {1 << 20, false, false},
}

func TestFileLengths(t *testing.T) {
	for _, l := range lengths {
		name := fmt.Sprintf("P3: files, %d bytes", l.bytes)
		for _, f := range []api.File{{Path: text(l.bytes), Blob: "b"}, {Path: "p", Blob: text(l.bytes)}} {
			alone, behind, e := []api.File{f}, append(files("a", "b"), f), edits("z", "", "n")
			if l.filled {
				check(t, name, alone, e, append(alone, files("z", "n")...), api.OK)
				check(t, name, behind, e, append(behind, files("z", "n")...), api.OK)
				continue
			}
			check(t, name, alone, e, nil, api.ErrChange)
			check(t, name, behind, e, nil, api.ErrChange)
		}
	}
}

func TestEditLengths(t *testing.T) {
	for _, l := range lengths {
		s := text(l.bytes)
		name := fmt.Sprintf("P3: edits, %d bytes", l.bytes)
		if l.filled {
			check(t, name, nil, edits(s, "", "n"), files(s, "n"), api.OK)
			check(t, name, files("p", s), edits("p", s, "n"), files("p", "n"), api.OK)
			check(t, name, nil, edits("p", "", s), files("p", s), api.OK)
			continue
		}
		check(t, name, nil, edits(s, "", "n"), nil, api.ErrChange)
		check(t, name, nil, edits("a", "", "n", s, "", "n"), nil, api.ErrChange)
		if !l.atAll {
			check(t, name, nil, edits("p", s, "n"), nil, api.ErrChange)
			check(t, name, nil, edits("p", "", s), nil, api.ErrChange)
			check(t, name, nil, edits("a", "", "n", "p", "", s), nil, api.ErrChange)
		}
	}
}

func TestLengthsAreOfBytes(t *testing.T) {
	four, five := strings.Repeat("ä", 4), strings.Repeat("ä", 5)
	check(t, "P3: 4 letters, 8 bytes", files(four, four), edits(four, four, "ß"), files(four, "ß"), api.OK)
	check(t, "P3: 5 letters, 10 bytes", files(five, "b"), edits("p", "", "n"), nil, api.ErrChange)
	check(t, "P3: 5 letters, 10 bytes", files("p", five), edits("q", "", "n"), nil, api.ErrChange)
	check(t, "P3: 5 letters, 10 bytes", nil, edits(five, "", "n"), nil, api.ErrChange)
	check(t, "P3: 5 letters, 10 bytes", nil, edits("p", "", five), nil, api.ErrChange)
	check(t, "P3: 5 letters, 10 bytes", nil, edits("p", five, ""), nil, api.ErrChange)
}

func TestNumberOfEdits(t *testing.T) {
	for n := range api.MaxEdits + 3 {
		var e []api.Edit
		var want []api.File
		for i := range n {
			path := string([]byte{byte('a' + i)})
			e = append(e, api.Edit{Path: path, New: "n"})
			want = append(want, api.File{Path: path, Blob: "n"})
		}
		err := api.OK
		if n < 1 || n > api.MaxEdits {
			want, err = nil, api.ErrChange
		}
		check(t, fmt.Sprintf("P3: %d edits", n), nil, e, want, err)
	}
	check(t, "P3: no edits, a list", files("p", "b"), []api.Edit{}, nil, api.ErrChange)
	check(t, "P3: 256 + 1 edits", nil, make([]api.Edit, 257), nil, api.ErrChange)
}

func TestNumberOfFilesHasNoBound(t *testing.T) {
	var f, want []api.File
	for i := range 3000 {
		want = append(want, api.File{Path: fmt.Sprintf("%05d", i), Blob: "b"})
	}
	for _, i := range rand.New(rand.NewSource(1)).Perm(3000) {
		f = append(f, want[i])
	}
	check(t, "P3: many files", f, edits("zzz", "", "n"), append(want, api.File{Path: "zzz", Blob: "n"}), api.OK)
	check(t, "P3: many files, one twice", append(f, want[7]), edits("zzz", "", "n"), nil, api.ErrChange)
}

func TestPathTwice(t *testing.T) {
	for _, f := range [][]api.File{
		files("x", "1", "x", "1"), files("x", "1", "x", "2"), files("x", "1", "y", "1", "x", "2"), files("y", "1", "x", "1", "x", "1"),
	} {
		check(t, "P3: files", f, edits("z", "", "1"), nil, api.ErrChange)
		check(t, "P3: files", f, edits("x", "1", "3"), nil, api.ErrChange)
	}
	for _, e := range [][]api.Edit{
		edits("x", "1", "2", "x", "1", "2"), edits("x", "1", "2", "x", "2", "3"), edits("x", "1", "2", "y", "", "1", "x", "1", "3"), edits("y", "", "1", "z", "", "1", "x", "1", "2", "x", "1", ""), edits("x", "1", "", "x", "", "1"),
	} {
		check(t, "P3: edits", files("x", "1"), e, nil, api.ErrChange)
	}
	check(t, "P3: letters of both sizes are not the same", files("x", "1", "X", "1"), edits("x", "1", "2", "X", "1", "2"), files("X", "2", "x", "2"), api.OK)
}

func TestOldAndNewTheSame(t *testing.T) {
	check(t, "P3: nothing to nothing", nil, edits("x", "", ""), nil, api.ErrChange)
	check(t, "P3: what stands there", files("x", "1"), edits("x", "1", "1"), nil, api.ErrChange)
	check(t, "P3: the longest", files("x", text(api.MaxText)), edits("x", text(api.MaxText), text(api.MaxText)), nil, api.ErrChange)
	check(t, "P3: the second one", files("x", "1"), edits("x", "1", "2", "y", "", ""), nil, api.ErrChange)
}

func TestEditsThatApply(t *testing.T) {
	check(t, "P4: made", nil, edits("x", "", "1"), files("x", "1"), api.OK)
	check(t, "P4: made, files an empty list", []api.File{}, edits("x", "", "1"), files("x", "1"), api.OK)
	check(t, "P4: changed", files("x", "1", "y", "1"), edits("x", "1", "2"), files("x", "2", "y", "1"), api.OK)
	check(t, "P4: taken away", files("x", "1", "y", "1"), edits("x", "1", ""), files("y", "1"), api.OK)
	check(t, "P4: the last one taken away", files("x", "1"), edits("x", "1", ""), nil, api.OK)
	check(t, "P4: all at once", files("c", "1", "b", "1", "a", "1"), edits("d", "", "2", "c", "1", "", "b", "1", "2"), files("a", "1", "b", "2", "d", "2"), api.OK)
	check(t, "P4: moved", files("x", "1"), edits("y", "", "1", "x", "1", ""), files("y", "1"), api.OK)
	check(t, "P4: edits out of order", nil, edits("c", "", "3", "a", "", "1", "b", "", "2"), files("a", "1", "b", "2", "c", "3"), api.OK)
	check(t, "P4: bytes that are no letters", files("x", "\x00"), edits("x", "\x00", "\xff\xfe"), files("x", "\xff\xfe"), api.OK)
}

func TestEditsThatDoNotApply(t *testing.T) {
	for _, e := range [][]api.Edit{
		edits("x", "2", "3"), edits("x", "2", ""), edits("x", "", "3"), edits("x", "11", "3"), edits("x", "1\x00", "3"), edits("y", "1", "2"), edits("y", "1", ""), edits("X", "1", "2"), edits("xx", "1", "2"),
		edits("y", "", "1", "x", "2", ""), edits("x", "1", "2", "y", "1", "2"), edits("x", "1", "2", "y", "", "1", "z", "", "1", "zz", "1", ""),
	} {
		check(t, "P4", files("x", "1"), e, nil, api.ErrNone)
	}
	check(t, "P4: no files", nil, edits("x", "1", "2"), nil, api.ErrNone)
	check(t, "P4: an edit does not see the ones ahead of it", files("x", "1"), edits("x", "1", "2", "y", "2", "3"), nil, api.ErrNone)
}

func TestToldByRisingPaths(t *testing.T) {
	// Each begins with the one ahead of it, or is above it in its first byte that differs.
	paths := []string{"\x00", "\x00\x00", "\x01", "-", "/", "A", "Z", "a", "a\x00", "a-", "a/", "aa", "aaaaaaaa", "ab", "b", "z", "\x7f", "\x80", "\xc3", "ä", "ää", "ö", "日本", "\xff", "\xff\x00", "\xff\xff"}
	var want []api.File
	for i, p := range paths {
		want = append(want, api.File{Path: p, Blob: fmt.Sprint(i)})
	}
	r := rand.New(rand.NewSource(2))
	for range 200 {
		var f []api.File
		for _, i := range r.Perm(len(want)) {
			f = append(f, want[i])
		}
		last := f[len(f)-1]
		check(t, "told", f[:len(f)-1], edits(last.Path, "", last.Blob), want, api.OK)
	}
}

func TestSeveralWrongThings(t *testing.T) {
	good := files("x", "1")
	for _, c := range []struct {
		name string
		f    []api.File
		e    []api.Edit
		err  api.Errno
	}{
		{"no edits, and files that may not be", files("", ""), nil, api.ErrChange},
		{"files that may not be, and edits that do not apply", files("x", "1", "y", ""), edits("x", "2", "3"), api.ErrChange},
		{"a path twice in files, and edits that do not apply", files("x", "1", "x", "2"), edits("x", "3", "4"), api.ErrChange},
		{"an edit that does not apply, ahead of one that may not be", good, edits("x", "2", "3", "", "", "1"), api.ErrChange},
		{"an edit that may not be, ahead of one that does not apply", good, edits("y", "", "", "x", "2", "3"), api.ErrChange},
		{"an edit that does not apply, twice", good, edits("x", "2", "3", "x", "2", "3"), api.ErrChange},
		{"too many edits that do not apply", good, edits("a", "1", "2", "b", "1", "2", "c", "1", "2", "d", "1", "2", "e", "1", "2"), api.ErrChange},
		{"Old and New the same, and not what stands there", good, edits("x", "2", "2"), api.ErrChange},
		{"Old too long, so it does not apply either", good, edits("x", text(api.MaxText+1), "2"), api.ErrChange},
		{"New too long, and Old does not stand there", good, edits("x", "2", text(api.MaxText+1)), api.ErrChange},
		{"two edits that do not apply", good, edits("x", "2", "3", "y", "2", "3"), api.ErrNone},
	} {
		check(t, "P1: "+c.name, c.f, c.e, nil, c.err)
	}
}

// TestSpareRoom: the room behind a list's end isn't Apply's either, nor is that of an answer anybody else's.
func TestSpareRoom(t *testing.T) {
	f := files("b", "1", "a", "1", "s", "spare")
	e := edits("b", "1", "2", "s", "", "spare")
	f2, e2 := slices.Clone(f), slices.Clone(e)
	one, _ := tree.Apply(f2[:2], e2[:1])
	two, _ := tree.Apply(f2[:2], e2[:1])
	for i := range one[:cap(one)] {
		one[:cap(one)][i] = api.File{Path: "w", Blob: "w"}
	}
	_ = append(one, files("w", "w", "w", "w")...)
	if !slices.Equal(f2, f) || !slices.Equal(e2, e) {
		t.Errorf("P2: what was handed in has become %q, %q", f2, e2)
	}
	f2[0], e2[0] = api.File{}, api.Edit{}
	if want := files("a", "1", "b", "2"); !slices.Equal(two, want) {
		t.Errorf("P2: an answer has become %q, want %q", two, want)
	}
}

// TestTextsAreNew: texts of an answer share no memory with those handed in.
func TestTextsAreNew(t *testing.T) {
	b := []byte("pathblobedit")
	path, blob, edit := unsafe.String(&b[0], 4), unsafe.String(&b[4], 4), unsafe.String(&b[8], 4)
	got, _ := tree.Apply([]api.File{{Path: path, Blob: blob}}, []api.Edit{{Path: edit, New: blob}})
	copy(b, "xxxxxxxxxxxx")
	if want := files("edit", "blob", "path", "blob"); !slices.Equal(got, want) {
		t.Errorf("P2: an answer has become %q, want %q", got, want)
	}
}

// plain applies edits that may be to files that may be as P4 says it, by lists alone.
func plain(f []api.File, e []api.Edit) ([]api.File, api.Errno) {
	out := slices.Clone(f)
	for _, x := range e {
		i := slices.IndexFunc(out, func(y api.File) bool { return y.Path == x.Path })
		switch {
		case i < 0 && x.Old != "", i >= 0 && out[i].Blob != x.Old:
			return nil, api.ErrNone
		case i < 0:
			out = append(out, api.File{Path: x.Path, Blob: x.New})
		case x.New == "":
			out = slices.Delete(out, i, i+1)
		default:
			out[i].Blob = x.New
		}
	}
	slices.SortFunc(out, func(a, b api.File) int { return bytes.Compare([]byte(a.Path), []byte(b.Path)) })
	return out, api.OK
}

func TestDrawn(t *testing.T) {
	r := rand.New(rand.NewSource(3))
	paths := []string{"a", "a\x00", "ab", "b", "\xff", "\x80", "ä", "B"}
	blobs := []string{"", "1", "2", "\xff"}
	applied := 0
	for range 5000 {
		var f []api.File
		for _, p := range r.Perm(len(paths))[:r.Intn(len(paths)+1)] {
			f = append(f, api.File{Path: paths[p], Blob: blobs[1+r.Intn(2)]})
		}
		var e []api.Edit
		for _, p := range r.Perm(len(paths))[:1+r.Intn(api.MaxEdits)] {
			o := r.Intn(len(blobs) - 1)
			n := (o + 1 + r.Intn(len(blobs)-1)) % len(blobs)
			e = append(e, api.Edit{Path: paths[p], Old: blobs[o], New: blobs[n]})
		}
		want, err := plain(f, e)
		if err == api.OK {
			applied++
		}
		check(t, "P4: drawn", f, e, want, err)
	}
	if applied < 500 || applied > 4500 {
		t.Errorf("of 5000 drawn edits %d apply: too one-sided to show anything", applied)
	}
}
