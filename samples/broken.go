package samples

import "pilcrow/api"

// Wrong is a text that goes wrong, or is cut off, where it does, and what a
// decoder tells ahead of that.
type Wrong struct {
	Text string
	Fail api.Fail
	Told []uint32
}

// Broken: some of a codec, the wrong byte at the beginning, amid and at the
// end. The first one goes wrong behind a line's end, too, but by the plain
// profile.
func Broken(codec int) []Wrong {
	switch codec {
	case api.Utf8:
		return []Wrong{
			form("\x80", 0), form("\xC1", 0), form("\xFF\x41", 0), form("A\xC3\xA9\xE0\x80A", 4, 0x41, 0xE9), form("A\xED\xA0\x80", 2, 0x41),
			form("AB\xF4\x90", 3, 0x41, 0x42), form("ABC\xF5", 3, 0x41, 0x42, 0x43), cut("\xC3"), cut("A\xE2\x82", 0x41), cut("AA\xF0\x9F\x98", 0x41, 0x41),
		}
	case api.Utf16BE:
		return []Wrong{
			form("\xDC\x00", 0), form("\x00A\xDF\xFF\x00A", 2, 0x41), form("\x00A\xD8\x3D\x00A", 4, 0x41),
			cut("\x00"), cut("\x00A\xD8", 0x41), cut("\x00A\xD8\x3D", 0x41), cut("\xD8\x3D\xDE"),
		}
	case api.Utf16LE:
		return []Wrong{
			form("\x00\xDC", 1), form("A\x00\xFF\xDFA\x00", 3, 0x41), form("A\x00\x3D\xD8A\x00", 5, 0x41),
			cut("A"), cut("A\x00\x3D", 0x41), cut("A\x00\x3D\xD8", 0x41), cut("\x3D\xD8\x00"),
		}
	case api.Utf32BE:
		return []Wrong{
			form("\x01", 0), form("\x00\x11\x00\x00", 1), form("\x00\x00\x00A\x00\x00\xD8\x00", 6, 0x41),
			cut("\x00"), cut("\x00\x00\x00A\x00\x10\xFF", 0x41),
		}
	case api.Utf32LE:
		return []Wrong{
			form("\x00\x00\x11\x00", 2), form("A\x00\x00\x01", 3), form("A\x00\x00\x00\x00\xD8\x00\x00", 6, 0x41),
			cut("A"), cut("A\x00\x00\x00\xFF\xFF\x10", 0x41),
		}
	case api.Ebcdic:
		return []Wrong{
			form("\x41", 0), form("\xC1\x41\xC1", 1, 0x41), form("\xC1\xDD\x73\xC1", 3, 0x41), cut("\xDD"), cut("\xC1\xDD\x73\x66", 0x41),
		}
	case api.Puny:
		return []Wrong{
			form("\x80", 0), form("abc-\xFF", 4), form("bcher-\xC3kva", 6), cut("a-!"), cut("-kva"), cut("bcher-kv"),
		}
	case api.Bocu:
		return []Wrong{
			form("\x4F", 0), form("\x50", 0), form("\x91\xD3\x20", 2, 0x41), form("\xD3\xCA\x0A\x4F\x91", 3, 0x416, 0x0A),
			cut("\xD3"), cut("\x91\xFB\xEE", 0x41),
		}
	}
	return []Wrong{
		form("\x0C", 0), form("ab\x0C", 2, 0x61, 0x62), form("\x18\x00", 1), form("a\x18\xA8b", 2, 0x61), form("a\x0E\xD8\x3D\x41", 4, 0x61),
		form("\x0E\xDC", 1), form("\x0F\xF2", 1), form("\x0F\xDC", 1), form("a\x0F\x04\x16\xD8\x3D\x00", 6, 0x61, 0x416),
		cut("a\x0E", 0x61), cut("\x01"), cut("a\x0F\xD8\x3D", 0x61), cut("\x0F\xD8\x3D\xDE"), cut("\x0B\xE1"),
	}
}

// form: a text with a wrong byte at a place.
func form(text string, at int, told ...uint32) Wrong {
	return Wrong{Text: text, Fail: api.Fail{Err: api.ErrForm, At: at}, Told: told}
}

// cut: a text that ends too early.
func cut(text string, told ...uint32) Wrong {
	return Wrong{Text: text, Fail: api.Fail{Err: api.ErrCut, At: len(text)}, Told: told}
}
