package crate

import (
	"pilcrow/api"
	"pilcrow/block"
	"pilcrow/codec"
	"pilcrow/crc"
)

// Parse: the crate whose bytes these are.
func Parse(s string) (api.Crate, api.Fail) {
	c, fail := readHead(s)
	if fail.Err != api.OK {
		return api.Crate{}, fail
	}
	var sums totals
	at := headLong
	for at < len(s) && s[at] == blockMark {
		b, behind, fail := readBlock(c, s, at)
		if fail.Err != api.OK {
			return api.Crate{}, fail
		}
		c.Blocks = append(c.Blocks, b)
		sums.add(b)
		at = behind
	}
	if fail := checkEnd(s, at, sums.end()); fail.Err != api.OK {
		return api.Crate{}, fail
	}
	return c, api.Fail{}
}

// readHead: the crate, without its blocks yet, that s begins with.
func readHead(s string) (api.Crate, api.Fail) {
	if fail := checkLetters(s); fail.Err != api.OK {
		return api.Crate{}, fail
	}
	cut := api.Fail{Err: api.ErrCut, At: len(s)}
	switch {
	case len(s) <= versionAt:
		return api.Crate{}, cut
	case s[versionAt] != version:
		return api.Crate{}, api.Fail{Err: api.ErrVersion, At: versionAt}
	case len(s) <= codecAt:
		return api.Crate{}, cut
	case codec.Name(int(s[codecAt])) == "":
		return api.Crate{}, api.Fail{Err: api.ErrCodec, At: codecAt}
	case len(s) < headSumAt:
		return api.Crate{}, cut
	}
	c := api.Crate{Codec: int(s[codecAt]), Size: int(crc.Number(s[sizeAt:]))}
	switch {
	case wrong(c.Codec, c.Size) != api.OK:
		return api.Crate{}, api.Fail{Err: api.ErrCount, At: sizeAt}
	case len(s) < headLong:
		return api.Crate{}, cut
	case s[:headLong] != head(c.Codec, c.Size):
		return api.Crate{}, api.Fail{Err: api.ErrSum, At: headSumAt}
	}
	return c, api.Fail{}
}

// checkLetters: why s doesn't begin with the letters.
func checkLetters(s string) api.Fail {
	for i := range len(letters) {
		switch {
		case i == len(s):
			return api.Fail{Err: api.ErrCut, At: len(s)}
		case s[i] != letters[i]:
			return api.Fail{Err: api.ErrMagic, At: i}
		}
	}
	return api.Fail{}
}

// readBlock: the block of s that begins at a place, behind the crate's blocks
// so far; and the place behind it.
func readBlock(c api.Crate, s string, at int) (api.Block, int, api.Fail) {
	b, behind, fail := block.Read(s, at)
	if fail.Err != api.OK {
		return api.Block{}, 0, fail
	}
	// A block that has fewer than Size is known for wrong by what comes behind.
	last := len(c.Blocks) - 1
	if b.Count > c.Size || last >= 0 && c.Blocks[last].Count < c.Size {
		return api.Block{}, 0, api.Fail{Err: api.ErrCount, At: at + countAt}
	}
	return b, behind, api.Fail{}
}

// checkEnd: why what stands in s from a place on isn't just this end.
func checkEnd(s string, at int, end string) api.Fail {
	switch {
	case at == len(s):
		return api.Fail{Err: api.ErrCut, At: at}
	case s[at] != endMark:
		return api.Fail{Err: api.ErrMagic, At: at}
	case len(s)-at < endLong:
		return api.Fail{Err: api.ErrCut, At: len(s)}
	}
	here := s[at:]
	switch {
	case here[blocksAt:scalarsAt] != end[blocksAt:scalarsAt]:
		return api.Fail{Err: api.ErrTotal, At: at + blocksAt}
	case here[scalarsAt:bytesAt] != end[scalarsAt:bytesAt]:
		return api.Fail{Err: api.ErrTotal, At: at + scalarsAt}
	case here[bytesAt:endSumAt] != end[bytesAt:endSumAt]:
		return api.Fail{Err: api.ErrTotal, At: at + bytesAt}
	case here[endSumAt:endLong] != end[endSumAt:]:
		return api.Fail{Err: api.ErrSum, At: at + endSumAt}
	case len(here) > endLong:
		return api.Fail{Err: api.ErrMore, At: at + endLong}
	}
	return api.Fail{}
}
