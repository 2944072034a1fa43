package classfile_test

import (
	"fmt"
	"slices"
	"testing"

	"obelisk/api"
	"obelisk/classfile"
)

func TestRichFiles(t *testing.T) {
	rich().hold(t, "a class of all there may be", true)
	richFace().hold(t, "an interface of all there may be", true)
	start(0).hold(t, "the least class", true)
	start(api.Interface|api.Abstract).hold(t, "the least interface", true)
}

func TestFewerThanEightBytes(t *testing.T) {
	want(t, "nil", nil, api.EFormat)
	want(t, "no byte", []byte{}, api.EFormat)
	for _, major := range []int{49, 50, 52, 53} {
		f := rich()
		f.major = major
		for n := range 8 {
			want(t, fmt.Sprint(n, " bytes of version ", major), f.bytes()[:n], api.EFormat)
		}
		for n := range 8 {
			want(t, fmt.Sprint(n, " noughts"), make([]byte, n), api.EFormat)
		}
	}
}

func TestMagicNumber(t *testing.T) {
	for _, major := range []int{0, 49, 50, 51, 52, 53, 65535} {
		for _, minor := range []int{0, 1, 65535} {
			for bit := range 32 {
				f := rich()
				f.magic, f.minor, f.major = 0xcafebabe^1<<bit, minor, major
				what := fmt.Sprintf("magic number %x, version %d.%d", f.magic, major, minor)
				want(t, what, f.bytes(), api.EFormat)
				want(t, what+" and nothing behind", f.bytes()[:8], api.EFormat)
				want(t, what+" and too many bytes", append(f.bytes(), make([]byte, 66000)...), api.EFormat)
			}
		}
	}
	for _, magic := range []int{0, 1, 0xffffffff, 0xbebafeca, 0xfecabeba, 0xbabecafe} {
		f := rich()
		f.magic = magic
		want(t, fmt.Sprintf("magic number %x", magic), f.bytes(), api.EFormat)
	}
}

// versionIs tells the error of a version, ahead of what may be wrong behind it.
func versionIs(minor, major int) api.Error {
	if minor == 0 && (major == 50 || major == 51 || major == 52) {
		return api.OK
	}
	return api.EVersion
}

func TestVersions(t *testing.T) {
	for _, minor := range []int{0, 1, 2, 3, 50, 52, 255, 256, 32768, 65535} {
		for _, major := range []int{0, 1, 44, 45, 46, 47, 48, 49, 50, 51, 52, 53, 54, 55, 61, 127, 128, 255, 256, 256 + 52, 50 << 8, 52 << 8, 32768 + 52, 65535} {
			f := start(0)
			f.minor, f.major = minor, major
			err := versionIs(minor, major)
			what := fmt.Sprintf("version %d.%d", major, minor)
			want(t, what, f.bytes(), err)
			if err == api.OK {
				err = api.EFormat
			}
			want(t, what+", nothing behind", f.bytes()[:8], err)
			want(t, what+", a byte lacks", f.bytes()[:len(f.bytes())-1], err)
			want(t, what+", a byte behind the end", append(f.bytes(), 0), err)
			want(t, what+", noughts behind", append(f.bytes()[:8], make([]byte, 30)...), err)
			want(t, what+", too many bytes", append(f.bytes(), make([]byte, 65536)...), err)
			f.flags = 0x8000
			want(t, what+", wrong flags behind", f.bytes(), err)
		}
	}
}

// Each number that the version may be, by each of its four bytes.
func TestEachByteOfTheVersion(t *testing.T) {
	b := start(0).bytes()
	for at := 4; at < 8; at++ {
		for v := range 256 {
			changed := slices.Clone(b)
			changed[at] = byte(v)
			minor, major := int(changed[4])<<8+int(changed[5]), int(changed[6])<<8+int(changed[7])
			want(t, fmt.Sprintf("byte %d is %d", at, v), changed, versionIs(minor, major))
		}
	}
}

func TestVersionIsTold(t *testing.T) {
	for _, major := range []int{50, 51, 52} {
		f := start(0)
		f.major = major
		c := f.read(t)
		if c.Major != major {
			t.Errorf("P9.1: Major %d of version %d", c.Major, major)
		}
	}
}

// ofSize makes a file of so many bytes by an attribute of the class.
func ofSize(n int) []byte {
	f := start(0)
	f.attributes = []attribute{f.attribute("x", nil)}
	f.attributes[0].contents = make([]byte, n-len(f.bytes()))
	return f.bytes()
}

func TestMostBytes(t *testing.T) {
	for n, is := range map[int]bool{1000: true, 32768: true, 65534: true, 65535: true, 65536: true, 65537: false, 65538: false, 70000: false, 1 << 20: false} {
		b := ofSize(n)
		if len(b) != n {
			t.Fatal("the tests' file has ", len(b), " bytes")
		}
		c, err := classfile.Read(b)
		if err != errorOf(is) || (c != nil) != is {
			t.Errorf("M2, %d bytes: %d %s", n, err, short(c))
		}
	}
}

func TestManyBytes(t *testing.T) {
	b := make([]byte, 1<<24)
	if c, err := classfile.Read(b); c != nil || err != api.EFormat {
		t.Error("M2: ", err)
	}
	copy(b, start(0).bytes())
	if c, err := classfile.Read(b); c != nil || err != api.EFormat {
		t.Error("M2: ", err)
	}
	b[7] = 53
	if c, err := classfile.Read(b); c != nil || err != api.EVersion {
		t.Error("M2: ", err)
	}
}

func TestFilesCutAtEachPlace(t *testing.T) {
	for _, f := range []*file{rich(), richFace(), start(0)} {
		b := f.bytes()
		for n := range b {
			want(t, fmt.Sprint("cut at ", n), b[:n], api.EFormat)
			want(t, fmt.Sprint("cut at ", n, ", its own memory"), slices.Clone(b[:n]), api.EFormat)
		}
	}
}

func TestBytesBehindTheEnd(t *testing.T) {
	for _, f := range []*file{rich(), richFace(), start(0)} {
		b := f.bytes()
		for n := 1; n < 20; n++ {
			for _, last := range []byte{0, 1, 255} {
				more := make([]byte, n)
				more[n-1] = last
				want(t, fmt.Sprint(n, " bytes behind the end"), slices.Concat(b, more), api.EFormat)
			}
		}
		want(t, "two files", slices.Concat(b, b), api.EFormat)
	}
}

// Every byte of a file may be another one: the answer is the model's.
func TestEachByteChanged(t *testing.T) {
	for what, f := range map[string]*file{"class": rich(), "interface": richFace()} {
		b := f.bytes()
		for from := range 4 { // a quarter of the places each
			t.Run(fmt.Sprint(what, from), func(t *testing.T) {
				t.Parallel()
				for i := from; i < len(b); i += 4 {
					for v := range 256 {
						changed := slices.Clone(b)
						changed[i] = byte(v)
						wantModel(t, fmt.Sprintf("byte %d is %d", i, v), changed)
					}
				}
			})
		}
	}
}

// A byte is left out, or one more stands there.
func TestBytesLessAndMore(t *testing.T) {
	for _, f := range []*file{rich(), richFace()} {
		b := f.bytes()
		for i := range b {
			less := slices.Delete(slices.Clone(b), i, i+1)
			wantModel(t, fmt.Sprint("without byte ", i), less)
			for _, v := range []byte{0, 1, 7, 255} {
				more := slices.Insert(slices.Clone(b), i, v)
				wantModel(t, fmt.Sprint("one more at ", i), more)
			}
		}
	}
}

// Several places of a file changed, to what may well stand there.
func TestManyBytesChanged(t *testing.T) {
	sound, seed := 0, uint32(1)
	next := func(n int) int {
		seed = seed*1664525 + 1013904223
		return int(seed>>8) % n
	}
	for _, f := range []*file{rich(), richFace()} {
		b := f.bytes()
		for n := range 20000 {
			changed := slices.Clone(b)
			for range 1 + next(3) {
				i := 8 + next(len(b)-8)
				switch next(3) {
				case 0:
					changed[i] = byte(next(f.count))
				case 1:
					changed[i] = b[next(len(b))]
				case 2:
					changed[i] ^= 1 << next(8)
				}
			}
			if wantModel(t, fmt.Sprint("change ", n), changed) == api.OK {
				sound++
			}
		}
	}
	if sound < 1000 {
		t.Errorf("only %d of the changed files hold: the test says little", sound)
	}
}
