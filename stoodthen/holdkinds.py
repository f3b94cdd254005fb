"""Holdings of nets in dials, their checker, and what they tell of dials and ties."""

from stoodthen.blocks import blocks_of, ties_within
from stoodthen.errors import InvalidPaper, need
from stoodthen.kinds import is_below, is_dials, is_tuple_of
from stoodthen.netchecker import is_net
from stoodthen.readerchecker import is_word


def is_holding(net, dials, thing):
    """Whether thing is a holding of the net in the dials."""
    try:
        lets_holding(net, dials, thing)
    except InvalidPaper:
        return False
    return True


def lets_holding(net, dials, thing):
    """For each dial how many values stay unused; InvalidPaper if thing is no holding."""
    need(is_dials(dials), "dials")
    blocks = blocks_of(net)
    if not is_tuple_of(thing, len(blocks)):
        raise InvalidPaper("shape", -1)
    used = [0 for _ in dials]
    tied = {}
    for place, entry in enumerate(thing):
        check_told(dials, len(ties_within(net, blocks[place])), place, entry)
        word, told = entry
        if word == "dial":
            if told in tied:
                raise InvalidPaper("twice", place)
            used[told] += len(blocks[place]) - 1
        else:
            for dial in told:
                if used[dial] > 0:
                    raise InvalidPaper("twice", place)
                used[dial] = 1
                tied[dial] = True
    return unused(dials, used)


def check_told(dials, many, place, entry):
    """Refuse what tells neither a dial for a block nor so many dials for its ties."""
    if not (is_tuple_of(entry, 2) and (is_word(entry[0], "dial") or is_word(entry[0], "ties"))):
        raise InvalidPaper("shape", place)
    word, told = entry
    if word == "dial":
        if not is_below(told, len(dials)):
            raise InvalidPaper("dial", place)
    elif not (is_tuple_of(told, many) and all([is_below(dial, len(dials)) for dial in told])):
        raise InvalidPaper("dial", place)


def unused(dials, used):
    """For each dial what is left of its size less 1; InvalidPaper if that is below 0."""
    for dial, size in enumerate(dials):
        if used[dial] > size - 1:
            raise InvalidPaper("full", dial)
    return tuple([size - 1 - taken for size, taken in zip(dials, used)])


def is_held(net, dials, holding):
    """Whether these are a net, dials, and a holding of the net in them."""
    return is_net(net) and is_dials(dials) and is_holding(net, dials, holding)


def need_holding(net, dials, holding):
    """Refuse what are no dials, or no holding of the net in them."""
    need(is_holding(net, dials, holding), "holding")


def shared_lots(net, dials, holding):
    """For each dial the list of the shared blocks for which it is told."""
    lots = [[] for _ in dials]
    for lot, (word, told) in zip(blocks_of(net), holding):
        if word == "dial":
            lots[told].append(lot)
    return lots
