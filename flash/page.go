package flash

import (
	"bytes"
	"iter"
)

const (
	erased     = 255
	maxNumber  = 250 // of a page
	headLength = 3   // bytes of a page before its frames
	frameHead  = 3   // bytes of a frame before its record
	maxRecord  = 200 // bytes of a record
)

func isTooLong(record []byte) bool { return len(record) > maxRecord }

func blank(n int) []byte { return bytes.Repeat([]byte{erased}, n) }

func isBlank(b []byte) bool { return bytes.Count(b, []byte{erased}) == len(b) }

// isValid reports whether a page is valid; a page that is not even that long is not.
func isValid(page []byte) bool {
	if len(page) < headLength {
		return false
	}
	n := page[0]
	return 1 <= n && n <= maxNumber && page[1] == 255-n && page[2] == 255-n
}

// isNewer reports whether the number a is newer than b.
func isNewer(a, b byte) bool {
	distance := (int(a) - int(b) + maxNumber) % maxNumber
	return 1 <= distance && distance <= maxNumber/2
}

// after returns the number after a number.
func after(n byte) int { return int(n)%maxNumber + 1 }

// pageWith returns the page with a number and records that fit.
func pageWith(size int, number byte, records [][]byte) []byte {
	page := make([]byte, 0, size)
	page = append(page, number, 255-number, 255-number)
	for _, record := range records {
		page = append(page, frameOf(record)...)
	}
	return append(page, blank(size-len(page))...)
}

func frameOf(record []byte) []byte {
	n := byte(len(record))
	return append([]byte{n, 255 - n, checksum(record)}, record...)
}

func checksum(record []byte) byte {
	sum := 7
	for i, c := range record {
		sum += (i + 1) * int(c)
	}
	return byte(sum % 251)
}

// frames yields the positions of the frames of a page, with their records.
func frames(page []byte) iter.Seq2[int, []byte] {
	return func(yield func(int, []byte) bool) {
		at := headLength
		for {
			record, ok := recordAt(page, at)
			if !ok || !yield(at, record) {
				return
			}
			at += frameHead + len(record)
		}
	}
}

// recordAt returns the record whose frame begins at a position, if there is one.
func recordAt(page []byte, at int) ([]byte, bool) {
	if at+frameHead > len(page) {
		return nil, false
	}
	n := page[at]
	end := at + frameHead + int(n)
	if n > maxRecord || page[at+1] != 255-n || end > len(page) {
		return nil, false
	}
	record := page[at+frameHead : end]
	return record, page[at+2] == checksum(record)
}

// restOf returns the position at which the rest of a page begins.
func restOf(page []byte) int {
	rest := headLength
	for at, record := range frames(page) {
		rest = at + frameHead + len(record)
	}
	return rest
}
